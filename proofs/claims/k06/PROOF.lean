import PyProof.Rows.All
import Wide.All
import OpenK.AllK
import Wide.FinOn
import HandS.TupSets
import KE.KeyNested
import HandS.Base
import HandS.Call
import HandS.List
import HandS.Ends
import HandS.Words
import PyProof.ReprRoads
import KE.KDictKeyed
import KE.SortData
import HandS.Dict
import KE.LtData
import KE.SortCalls
import PyProof.P3Eq
import KE.DataEq
import HandS.DictTup
import KE.KDictSum
import KE.KDictCopyH
import HandS.ExcValue
import KE.KDictList
import PyProof.Rows.TupTab
import PyProof.DictRoadsH
import HandS.TupLen
import PyProof.ListCopy
import HandS.Comp
import HandS.AnyAll
import HandS.GenOver
import HandS.Lambda
import PyProof.TupleOfGen
import PyProof.GenCompD
import HandS.GenBody
import PyProof.MinMaxWalk
import PyProof.Rows.MinMaxGenD
import HandS.EndTab
import HandS.ForMost
import HandS.Walk
import HandS.Zip
import HandS.Iter
import KE.GoesEnum
import KE.GoesNew
import HandS.Style
import HandS.TupAny
import HandS.TupLe
import HandS.IsInst
import HandS.Wide
import HandS.TupMul
import HandS.TryOnly
import HandS.Deep
import HandS.RaiseMore
import PyProof.SumAny
import PyProof.Rows.SumGenD
import HandS.DictComp
import KE.KDictWalk
import KE.KIndexOf
import PyProof.DictMoreH
import HandS.Conv
import KE.DataFind
import HandS.More
import HandS.SortInts
import PyProof.SliceList
import HandS.MakeKwOnly
import KE.KDictZip
import PyProof.ListNew
import PyProof.SetRoads
import KE.KDictItemsList
import HandS.ExcCtx
import HandS.Star
import PyProof.Rows.IntBool
import PyProof.Rows.EqBoolInt
import PyProof.NeKinds
import PyProof.Rows.RegFStrParts
import PyProof.FitsInt
import PyProof.StrLawsRepr
import PyProof.Rows.ReprOcc
import PySem.Challenge.RW_strangersay_k06_states_of_anything
set_option Elab.async false
set_option linter.all false
set_option maxRecDepth 100000
set_option maxHeartbeats 1600000
namespace Sa
open PySem PySem.Spec PyProof.Rows L2
/-- the tuple at a is this key, not too deep -/
abbrev KeyAt (h : Heap) (k : NestedKey) (a : Addr) : Prop := NestedIs h k (.ref a) /\ k.depth <= 8
/-- asked in s, m answers b and leaves all as it is -/
def Says (P : Program) (w : World) (A : Around) (s : Shared) (m : Sem Bool) (b : Bool) : Prop := ∀ (Q : Bool -> Shared -> Prop) (E : Value -> Shared -> Prop), Q b s -> wpAny (model P w) A m Q E s
theorem each_key {h : Heap} : ∀ (ks : List NestedKey) (vs : List Value), NestedAll h ks vs -> ∀ u ∈ vs, ∃ k, NestedIs h k u /\ k.depth <= NestedKey.depthAll ks
  | [], _, all, u, hu => by cases all; cases hu
  | k :: ks, _, all, u, hu => by
    cases all with
    | cons one more =>
      unfold NestedKey.depthAll
      rcases List.mem_cons.mp hu with e | hu
      · exact ⟨k, by rw [e]; exact one, by omega⟩
      · obtain ⟨k', is', le⟩ := each_key ks _ more u hu
        exact ⟨k', is', by omega⟩
section
variable {P : Program} {w : World} {A : Around} {s : Shared}
/-- a loop whose turns leave all as it is -/
theorem turns_idle {α β : Type} {f : α -> β -> Sem (ForInStep β)} {b : β} {Q : β -> Shared -> Prop} {E : Value -> Shared -> Prop} :
    ∀ (l : List α), (∀ x ∈ l, ∀ R : ForInStep β -> Shared -> Prop, R (.yield b) s -> wpAny (model P w) A (f x b) R E s) -> Q b s -> wpAny (model P w) A (forIn l b f) Q E s
  | [], _, q => by rw [List.forIn_nil]; exact wpAny_pure q
  | x :: l, turn, q => by
    rw [List.forIn_cons]
    exact wpAny_bind (turn x List.mem_cons_self _ (turns_idle l (fun y hy => turn y (List.mem_cons_of_mem _ hy)) q))
/-- no key is of a class that the text makes -/
theorem no_class : ∀ (n : Nat) (k : NestedKey) (v : Value), NestedIs s.heap k v -> k.depth <= n -> Says P w A s (ofAClassStatement n v) false := by
  intro n
  induction n with
  | zero =>
    intro k v is' le Q E q
    cases is' with
    | tup => unfold NestedKey.depth at le; omega
    | _ => exact wpAny_pure q
  | succ n ih =>
    intro k v is' le Q E q
    cases is' with
    | @tup a o vs m ks at' cl dt all =>
      have le' : NestedKey.depthAll ks <= n := by unfold NestedKey.depth at le; omega
      rw [ofAClassStatement]
      refine wpAny_bind (wpAny_typeOf ⟨o, at', cl⟩ ?_)
      dsimp only
      rw [if_pos (by decide)]
      refine wpAny_bind (wpAny_pure ?_)
      rw [if_neg (by decide)]
      refine wpAny_bind (wpAny_seqItems at' dt ?_)
      dsimp only
      refine wpAny_bind ?_
      show wpAny _ _ (forIn vs _ _) _ _ s
      rw [<- Array.forIn_toList]
      refine turns_idle _ (fun u hu R r => ?_) (wpAny_pure q)
      obtain ⟨k', is', le''⟩ := each_key ks _ all u hu
      exact wpAny_bind (ih k' u is' (by omega) _ _ (wpAny_pure r))
    | _ => exact wpAny_pure q
/-- looking for a key among keys shows nothing -/
theorem unseen {x : Addr} {k : NestedKey} {ys : List Value} (hx : KeyAt s.heap k x) (all : ∀ y ∈ ys, ∃ c k', y = Value.ref c /\ KeyAt s.heap k' c) : Says P w A s (searchCouldBeSeen (.ref x) ys) false := by
  intro Q E q
  unfold searchCouldBeSeen
  refine wpAny_bind (turns_idle _ (fun y hy R r => ?_) (wpAny_pure q))
  obtain ⟨c, k', rfl, hc⟩ := all y hy
  dsimp only
  split
  · exact wpAny_pure r
  · refine wpAny_bind (quiet_key k _ 8 s hx.1 hx.2 _ _ _ ?_)
    refine wpAny_bind (quiet_key k' _ 8 s hc.1 hc.2 _ _ _ ?_)
    refine wpAny_bind (no_class 8 k _ hx.1 hx.2 _ _ ?_)
    exact wpAny_bind (no_class 8 k' _ hc.1 hc.2 _ _ (wpAny_pure r))
end
end Sa
namespace Sa
open PySem PySem.Spec PyProof.Rows L2
abbrev Keys := List (Addr × NestedKey)
/-- an entry of a set -/
abbrev entOf (w : World) (p : Addr × NestedKey) : Int × Value := (p.2.hash w, .ref p.1)
/-- the set at a has just L in its table t, in the table's order -/
structure Bears (w : World) (h : Heap) (a : Addr) (L : Keys) (ep : Nat) (t : SetTable) : Prop where
  obj : ∃ o, h.get? a = some o /\ o.ExactSet /\ o.data = .set (L.map (entOf w)).toArray ep t
  tab : TabOk t (L.map fun p => p.2.hash w)
  led : w.params.followText "set-order" = true ∨ t.led = true
  wide : L.length * 5 < t.mask * 3
/-- the c-th stand of the way of a hash -/
abbrev standAt' (t : SetTable) (g : Int) (c : Nat) : SetTable.Probe := nth t.mask (runAt t.mask (SetTable.bits g % (t.mask + 1)) (SetTable.bits g)) c
/-- what stands in the c-th slot of the way of g -/
def Met (t : SetTable) (L : Keys) (g : Int) (c : Nat) (p : Addr × NestedKey) : Prop := ∃ i : Nat, t.place.toList[i]? = some (way t.mask g c) /\ L[i]? = some p
theorem Met.one {t : SetTable} {L : Keys} {g : Int} {c i : Nat} {p q : Addr × NestedKey} (r : Ris t.place.toList) (m : Met t L g c p) (e1 : t.place.toList[i]? = some (way t.mask g c)) (e2 : L[i]? = some q) : p = q := by
  obtain ⟨j, f1, f2⟩ := m
  have a1 := slot_live r f1
  rw [slot_live r e1] at a1
  cases a1
  exact Option.some.inj (f2.symm.trans e2)
/-- no dummy is on the way -/
theorem way_clean (m : Nat) (p : SetTable.Probe) (h : p.dummy = none) (c : Nat) : (nth m p c).dummy = none := by
  induction c with
  | zero => exact h
  | succ c ih =>
    rw [nth_succ]
    unfold adv
    split <;> exact ih
section
variable {w : World} {h : Heap} {a : Addr} {L : Keys} {ep : Nat} {t : SetTable}
theorem Bears.many (B : Bears w h a L ep t) : t.place.size = L.length := by simpa using B.tab.sz
theorem Bears.fits (B : Bears w h a L ep t) : t.fits (L.map (entOf w)).toArray.size = true := by
  have := B.many
  have := B.wide
  simp [SetTable.fits, SetTable.fill, B.tab.dm]
  omega
theorem Bears.odd (B : Bears w h a L ep t) : t.gaveWay = false := by simp [SetTable.gaveWay, mask_odd B.tab.mok]
theorem ent_at {i : Nat} {p : Addr × NestedKey} (e : L[i]? = some p) : (L.map (entOf w)).toArray[i]? = some (entOf w p) := by simp [e]
/-- one look along the way: the next thing with this hash, or the free slot -/
theorem next_of (B : Bears w h a L ep t) (g : Int) {K c : Nat} (le : c <= K) (fuel : K < 10 * SetTable.turns t.mask) (free : way t.mask g K ∉ t.place.toList) (full : ∀ c, c < K -> way t.mask g c ∈ t.place.toList) :
    (∃ (d i : Nat) (p : Addr × NestedKey), c <= d /\ d < K /\ t.place.toList[i]? = some (way t.mask g d) /\ L[i]? = some p /\ (∀ c' p', c <= c' -> c' < d -> Met t L g c' p' -> p'.2.hash w ≠ g) /\
      t.probe (fun i => ((L.map (entOf w)).toArray[i]?.map (·.1)).getD 0) g (standAt' t g c) = some (.candidate (way t.mask g d) i (standAt' t g (d + 1)))) ∨
    ((∀ c' p', c <= c' -> c' < K -> Met t L g c' p' -> p'.2.hash w ≠ g) /\ t.probe (fun i => ((L.map (entOf w)).toArray[i]?.map (·.1)).getD 0) g (standAt' t g c) = some (.empty (way t.mask g K) none)) := by
  have shift : ∀ n, nth t.mask (standAt' t g c) n = standAt' t g (c + n) := fun n => (nth_add t.mask c _ n).symm
  have shiftJ : ∀ n, (nth t.mask (standAt' t g c) n).j = way t.mask g (c + n) := fun n => by rw [shift]
  have passed : ∀ (N : Nat), (∀ n i : Nat, n < N -> t.place.toList[i]? = some (nth t.mask (standAt' t g c) n).j -> ((L.map (entOf w)).toArray[i]?.map (·.1)).getD 0 ≠ g) -> ∀ c' p', c <= c' -> c' < c + N -> Met t L g c' p' -> p'.2.hash w ≠ g := by
    intro N no c' p' l1 l2 ⟨i, e1, e2⟩
    have z := no (c' - c) i (by omega) (by rw [shiftJ, Nat.add_sub_cancel' l1]; exact e1)
    rw [ent_at e2] at z
    exact z
  have ans := go_spec t B.tab.ris B.tab.dm (fun i => ((L.map (entOf w)).toArray[i]?.map (·.1)).getD 0) g (10 * SetTable.turns t.mask) (K - c) (standAt' t g c) (way_clean _ _ rfl _) (by omega)
    (fun n hn => by rw [shiftJ]; exact full _ (by omega)) (by rw [shiftJ, Nat.add_sub_cancel' le]; exact free)
  rcases ans with ⟨n, i, lt, slot, _, before, probe⟩ | ⟨before, probe⟩
  · rw [shiftJ] at slot probe
    rw [shift] at probe
    have il : i < L.length := by
      have := (List.getElem?_eq_some_iff.mp slot).1
      rw [Array.length_toList, B.many] at this
      exact this
    exact .inl ⟨c + n, i, L[i], by omega, by omega, slot, List.getElem?_eq_getElem il, passed n before, probe⟩
  · rw [shiftJ, Nat.add_sub_cancel' le] at probe
    refine .inr ⟨fun c' p' l1 l2 => passed (K - c) before c' p' l1 (by omega), probe⟩
end
section
variable {P : Program} {w : World} {A : Around} {E : Value -> Shared -> Prop} {s : Shared} {a x : Addr} {L : Keys} {ep : Nat} {t : SetTable} {k : NestedKey} {Q : SetFound -> Shared -> Prop}
/-- the search from the c-th slot of the way on, where nothing ahead of it is the key -/
theorem search_on (B : Bears w s.heap a L ep t) (keys : ∀ p ∈ L, KeyAt s.heap p.2 p.1) (hx : KeyAt s.heap k x) (room : A.units + 8 < cLine) {K : Nat} (fuel : K < 10 * SetTable.turns t.mask) (free : way t.mask (k.hash w) K ∉ t.place.toList)
    (full : ∀ c, c < K -> way t.mask (k.hash w) c ∈ t.place.toList) (isIn : k ∈ L.map (·.2) -> Q (.there none) s) (isOut : (∀ c p, c < K -> Met t L (k.hash w) c p -> p.2 ≠ k) -> Q (.free (way t.mask (k.hash w) K) false) s) :
    ∀ (n c f : Nat) (stand : Option SetTable.Probe), c + n = K -> n < f -> stand.getD (t.probeStart (k.hash w)) = standAt' t (k.hash w) c -> (∀ c' p, c' < c -> Met t L (k.hash w) c' p -> p.2 ≠ k) ->
      wpAny (model P w) A (setSearchFrom a (.ref x) (k.hash w) true f stand) Q E s := by
  intro n
  induction n using Nat.strongRecOn with
  | ind n ih =>
    intro c f stand sum lt here past
    obtain ⟨o, at', _, dt⟩ := B.obj
    cases f with
    | zero => omega
    | succ f =>
      rw [setSearchFrom_succ]
      refine wpAny_bind (wpAny_setState_of at' dt B.fits ?_)
      simp only [B.odd, here, Bool.false_eq_true, if_false]
      rcases next_of B (k.hash w) (c := c) (by omega) fuel free full with ⟨d, i, p, l1, l2, slot, ei, between, probe⟩ | ⟨between, probe⟩
      · rw [probe]
        simp only
        have goOn : wpAny (model P w) A (searchRest a (.ref x) (k.hash w) true f (L.map (entOf w)).toArray t (way t.mask (k.hash w) d) i (standAt' t (k.hash w) (d + 1))) Q E s := by
          unfold searchRest
          rw [ent_at ei]
          refine wpAny_bind (wpAny_holding ((nestedKind P w).eqBool (x := p.2) (y := k) room (keys p (List.mem_of_getElem? ei)) hx ?_))
          refine wpAny_bind (wpAny_setState_of at' dt B.fits ?_)
          by_cases same : p.2 = k
          · simp only [same, decide_true, Bool.and_self, if_true]
            exact wpAny_pure (isIn (List.mem_map.mpr ⟨p, List.mem_of_getElem? ei, same⟩))
          · simp only [same, decide_false, Bool.and_false, Bool.false_eq_true, if_false, sameMem, if_true, slot_live B.tab.ris slot, ent_at ei]
            refine wpAny_bind (wpAny_isSame_ref_self (wpAny_bind (wpAny_pure ?_)))
            simp only [if_true]
            refine ih (K - (d + 1)) (by omega) (d + 1) f _ (by omega) (by omega) rfl fun c' q lt' met => ?_
            by_cases old : c' < c
            · exact past c' q old met
            · by_cases mid : c' < d
              · exact fun e => between c' q (by omega) mid met (by rw [e])
              · have : c' = d := by omega
                subst this
                rw [met.one B.tab.ris slot ei]
                exact same
        cases led : t.led with
        | true =>
          simp only [Bool.not_true, Bool.false_eq_true, if_false]
          exact goOn
        | false =>
          simp only [Bool.not_false, if_true]
          refine wpAny_bind (unseen hx (fun y hy => ?_) _ _ ?_)
          · simp only [List.mem_map, Array.mem_toList_iff, Array.mem_filter, List.mem_toArray] at hy
            obtain ⟨e, ⟨⟨q, hq, rfl⟩, _⟩, rfl⟩ := hy
            exact ⟨q.1, q.2, rfl, keys q hq⟩
          · simp only [Bool.false_eq_true, if_false]
            exact goOn
      · rw [probe]
        refine wpAny_pure (isOut fun c' q lt' met => ?_)
        by_cases old : c' < c
        · exact past c' q old met
        · exact fun e => between c' q (by omega) lt' met (by rw [e])
/-- the whole search, as adding asks for it -/
theorem search (B : Bears w s.heap a L ep t) (keys : ∀ p ∈ L, KeyAt s.heap p.2 p.1) (hx : KeyAt s.heap k x) (room : A.units + 8 < cLine) (isIn : k ∈ L.map (·.2) -> Q (.there none) s)
    (isOut : ∀ K, k ∉ L.map (·.2) -> way t.mask (k.hash w) K ∉ t.place.toList -> (∀ c, c < K -> way t.mask (k.hash w) c ∈ t.place.toList) -> Q (.free (way t.mask (k.hash w) K) false) s) :
    wpAny (model P w) A (setSearch a (.ref x) (k.hash w) true) Q E s := by
  have wide := B.wide
  obtain ⟨K, fuel, free, full⟩ := B.tab.first (by rw [List.length_map]; omega) (k.hash w)
  have short : K < 100000 := by
    refine Nat.lt_of_lt_of_le fuel ?_
    rcases B.tab.mok with e | e | e <;> rw [e] <;> decide
  refine search_on B keys hx room fuel free full isIn (fun none' => isOut K (fun mem => ?_) free full) K 0 100000 none (Nat.zero_add _) short rfl fun _ _ no => absurd no (Nat.not_lt_zero _)
  obtain ⟨p, hp, e⟩ := List.mem_map.mp mem
  obtain ⟨i, il, ei⟩ := List.getElem_of_mem hp
  have at' : L[i]? = some p := by rw [List.getElem?_eq_getElem il, ei]
  have il' : i < t.place.toList.length := by rw [Array.length_toList, B.many]; exact il
  obtain ⟨c, lt, ec⟩ := B.tab.before free (i := i) (j := t.place.toList[i]) (by rw [List.getElem?_map, at', <- e]; rfl) (List.getElem?_eq_getElem il')
  exact none' c p lt ⟨i, by rw [ec]; exact List.getElem?_eq_getElem il', at'⟩ e
end
end Sa
namespace Sa
open PySem PySem.Spec PyProof.Rows L2
/-- nothing is being shown around -/
abbrev Free (A : Around) : Prop := A.guards = some []
/-- as FnOk, asked only where nothing is being shown around -/
structure FnG (P : Program) (w : World) (K : PySem.W.Frag) (mg : Str -> Option Value) (base : Heap) (k : Nat) (f : Addr) (fd : FuncData) (ps : List Str) (sp : Sp) : Prop where
  many : ∀ vs H Q E, sp vs H Q E -> vs.length = ps.length
  runs : ∀ (A : Around) (outer : List Env) (s : Shared) (H : Hp) (args : Args) (us : List Value) (vs : List V) (Q : VK) (E : XK), Room k A -> Free A ->
    Env0 P w K mg base A outer s H -> BindsTo s fd args (ps.zip us) -> Vals vs us -> sp vs H Q E ->
    codeAny (model P w) A (.call (.ref f) args) (CR CX0 outer P w H s Q E) s
theorem FnG.of {P : Program} {w : World} {K : PySem.W.Frag} {mg : Str -> Option Value} {base : Heap} {k : Nat} {f : Addr} {fd : FuncData} {ps : List Str} {sp : Sp}
    (F : FnOk P w K mg base CX0 k f fd ps sp) : FnG P w K mg base k f fd ps sp :=
  ⟨F.len, fun A outer s H args us vs Q E hr _ => F.run A outer s H args us vs Q E hr⟩
section
variable {P : Program} {w : World} {K : PySem.W.Frag} {mg : Str -> Option Value} {base : Heap}
/-- a def's body as a term of rules: the context's Around is free, too -/
theorem okG {x qual : Str} {st : Stmt} {f : Addr} {fd : FuncData} {N ps : List Str} {k : Nat} {sp : Sp} (F : Fun K x qual st f fd) (S : FnScope N ps (defScope st))
    (many : ∀ vs H Q E, sp vs H Q E -> vs.length = ps.length)
    (walk : ∀ (cdv : Value) (A : Around) (outer : List Env) (s : Shared) (H : Hp) (vs : List V) (Q : VK) (E : XK), fd.code = cdv -> Room k (A.deeper (envOfC qual (defScope st) s.heap.objs.size f cdv)) -> Free A ->
      sp vs H Q E -> ∃ t, PSs (cxOf CX0 P w K mg base N qual (defScope st) f cdv A outer s H E).nox (defBody st) t /\ t ⟨fun _ H' => Q .non H', Q, fun _ _ => False, fun _ _ => False⟩ (start N vs) H) :
    FnG P w K mg base (k + 1) f fd ps sp := by
  obtain ⟨oc, od, kV, doc, pm, an, cdv, ct, osl, rfl, lk, hcd⟩ := F.ex
  refine ⟨many, fun A outer s H args us vs Q E hr hfree e0 hb rel hsp => ?_⟩
  have keepB : ∀ b o, base.get? b = some o -> s.heap.get? b = some o := fun b o e => (e0.bs b o e).1
  have inH : K.In s.heap := e0.mod.kin.keeps keepB
  have noLim : s.heap.NoLimit := e0.mod.nolimit.keeps keepB
  refine codeAny_call_function hr.depth (inH _ _ lk) rfl S.co S.gen rfl (PySem.W.codeRec_of inH hcd) (hb _ _ _ _ ?_)
  refine wpAny_newFunctionEnv_cells S.kind (fun y hy => ?_) fun env he s1 call => ?_
  · obtain ⟨n, v⟩ := y
    rcases S.par n (List.of_mem_zip hy).1 with isLocal | isCell
    · exact .inl isLocal
    · exact .inr ⟨isCell, PySem.W.cellsFrom_some _ _ _ (.inl isCell)⟩
  subst he
  refine ⟨noLim.keeps call.toInCall.keep, codeAny_func ?_⟩
  obtain ⟨t, body, reading⟩ := walk cdv A outer s H vs Q E rfl (hr.deeper _) hfree hsp
  have J0 : Inv (cxOf CX0 P w K mg base N qual (defScope st) f cdv A outer s H E) [] (start N vs) H s1 := inv_start S hr.hd e0 (many _ _ _ _ hsp) rel call
  refine wpAny_mono (body.nox.run [] s1 (start N vs) H _ J0 reading) (fun flow s' out => ?_) fun _ _ bad => bad
  cases flow with
  | ret u =>
    obtain ⟨v, _, H', J, rv, q⟩ := out
    exact ⟨v, H', J.os, J.bare, J.base, J.hok, rv, q⟩
  | next =>
    obtain ⟨_, H', J, q⟩ := out
    exact ⟨V.non, H', J.os, J.bare, J.base, J.hok, (rfl : Value.none = Value.none), q⟩
  | brk =>
    obtain ⟨_, _, _, q⟩ := out
    exact q.elim
  | cont =>
    obtain ⟨_, _, _, q⟩ := out
    exact q.elim
end
section
variable {X : Cx} {k : Nat} {f : Addr} {fd : FuncData} {ps : List Str} {sp : Sp} {x : Str} {p pos : Pos} {e : Expr} {es : List Expr} {t : TA}
/-- a call of such a def -/
theorem pe_callG (F : FnG X.prog X.w X.K X.mg X.base k f fd ps sp) (hr : Room k X.A) (hf : Free X.A) (hg : Gl X x) (hm : X.mg x = some (.ref f)) (kp : PySem.W.keepIn X.K (.ref f) = true)
    (hb : Binds X.K fd ps []) (args : PA X (e :: es) t) (nd : (x == ("__debug__" : Str)) = false := by decide)
    (he : starEach (e :: es) X.env = (false, eval e X.env) :: starEach es X.env := by rfl) (np : (backTo pos (starEach es X.env)).any (·.1) = false := by rfl) :
    PE X (.Call (.Name x p) (e :: es) [] pos) (tCall sp [] E0 t) := by
  refine ⟨fun pins s σ H Q I h => wpAny_Call_Name_kw (ld_glob I hg hm ?_ nd)⟩
  refine PySem.W.callWith_K (h₀ := X.base) I.ok.mod.kin kp (thn (args.run pos pins s σ H _ I h) fun us s1 ⟨vs, H1, I1, rel, q⟩ => ⟨I1.kIn, ?_⟩) he np
  have rel2 : Vals (vs ++ []) (us ++ []) := rel.append .nil
  have many : (us ++ []).length = ps.length := rel2.length.symm.trans (F.many _ _ _ _ q)
  refine wpAny_call (codeAny_mono (F.runs X.A X.stack s1 H1 ⟨us, []⟩ (us ++ []) (vs ++ []) Q E0 hr hf I1.env0 (hb s1 us I1.kIn many) rel2 q) fun res s' out => ?_)
  cases res with
  | error _ => exact out.elim
  | ok flow =>
    cases flow with
    | ret _ => exact I1.after out
    | next => exact out.elim
    | brk => exact out.elim
    | cont => exact out.elim
end
end Sa
set_option maxHeartbeats 2000000
namespace Sa
open PySem PySem.Spec PyProof.Rows L2
mutual
/-- the key that such data is -/
def nk : PyData -> NestedKey
  | .bool b => .num (if b = true then 1 else 0)
  | .int i => .num i
  | .str x => .text x
  | .tuple ds => .tup (nks ds)
  | _ => .none
def nks : List PyData -> List NestedKey
  | [] => []
  | d :: ds => nk d :: nks ds
end
mutual
/-- no list, no dict in it -/
def flat : PyData -> Bool
  | .none => true
  | .bool _ => true
  | .int _ => true
  | .str _ => true
  | .tuple ds => flats ds
  | _ => false
def flats : List PyData -> Bool
  | [] => true
  | d :: ds => flat d && flats ds
end
mutual
theorem nk_is {h : Heap} : ∀ (d : PyData) (v : Value) (as : List Addr), Reads h v d as -> flat d = true -> NestedIs h (nk d) v
  | .none, _, _, r, _ => by cases r; exact .none
  | .bool b, _, _, r, _ => by cases r; exact .bool rfl
  | .int i, _, _, r, _ => by cases r; exact .int i _
  | .str x, _, _, r, _ => by cases r; exact .text x _
  | .tuple ds, _, _, r, f => by
    cases r with
    | tuple ho hc hd hr => exact .tup ho hc hd (nks_are ds _ _ hr f)
  | .list ds, _, _, _, f => by cases f
  | .dict ds, _, _, _, f => by cases f
theorem nks_are {h : Heap} : ∀ (ds : List PyData) (vs : List Value) (as : List Addr), ReadsAll h vs ds as -> flats ds = true -> NestedAll h (nks ds) vs
  | [], _, _, r, _ => by cases r; exact .nil
  | d :: ds, _, _, r, f => by
    have f' : (flat d && flats ds) = true := f
    rw [Bool.and_eq_true] at f'
    cases r with
    | cons r1 r2 => exact .cons (nk_is d _ _ r1 f'.1) (nks_are ds _ _ r2 f'.2)
end
section
variable {P : Program} {w : World} {E : Value -> Shared -> Prop}
mutual
/-- whether a hash goes by value: some answer, nothing changed -/
theorem hashBy_key : ∀ (k : NestedKey) (v : Value) (n : Nat) (A : Around) (s : Shared) (Q : Bool -> Shared -> Prop), NestedIs s.heap k v -> (∀ b, Q b s) -> wpAny (model P w) A (hashByValue n v) Q E s
  | .none, _, n, A, s, Q, x, h => by
    cases x
    rw [show hashByValue n Value.none = pure true by cases n <;> rfl]
    exact wpAny_pure (h true)
  | .num i, _, n, A, s, Q, x, h => by
    cases x with
    | bool _ =>
      rw [show ∀ b, hashByValue n (Value.bool b) = pure true by intro b; cases n <;> rfl]
      exact wpAny_pure (h true)
    | int _ t =>
      rw [show hashByValue n (Value.int i t) = pure true by cases n <;> rfl]
      exact wpAny_pure (h true)
  | .text y, _, n, A, s, Q, x, h => by
    cases x with
    | text _ t =>
      rw [show hashByValue n (Value.str y t) = pure false by cases n <;> rfl]
      exact wpAny_pure (h false)
  | .tup ks, v, 0, A, s, Q, x, h => by
    cases x with
    | @tup a o vs m _ ho hc hd hall =>
      rw [show hashByValue 0 (Value.ref a) = pure false from rfl]
      exact wpAny_pure (h false)
  | .tup ks, v, n + 1, A, s, Q, x, h => by
    cases x with
    | @tup a o vs m _ ho hc hd hall =>
      unfold hashByValue
      refine wpAny_bind (wpAny_specialOf (T := "tuple") ⟨o, ho, hc⟩ F.slot_tuple_hash.lookup ?_)
      show wpAny _ _ (seqItems? (.ref a) >>= _) _ _ s
      refine wpAny_bind (wpAny_seqItems ho hd ?_)
      refine wpAny_bind ?_
      show wpAny _ _ (forIn vs _ _) _ _ s
      rw [<- Array.forIn_toList]
      refine wpAny_forIn_list _ (fun rest r s' => s' = s /\ ∀ u ∈ rest, ∀ Q' : Bool -> Shared -> Prop, (∀ b, Q' b s) -> wpAny (model P w) A (hashByValue n u) Q' E s) _ ?_ ?_ _ _ ⟨rfl, hashBy_keys ks _ n A s hall⟩
      · rintro u rest r s' ⟨rfl, each⟩
        refine wpAny_bind (each u List.mem_cons_self _ fun b => ?_)
        cases b with
        | true =>
          simp only [Bool.not_true, Bool.false_eq_true, if_false]
          exact wpAny_pure ⟨rfl, fun y hy => each y (List.mem_cons_of_mem _ hy)⟩
        | false =>
          simp only [Bool.not_false, if_true]
          exact wpAny_pure (wpAny_pure (h false))
      · rintro ⟨r1, r2⟩ s' hr
        obtain ⟨rfl, _⟩ := hr
        cases r1 with
        | none => exact wpAny_pure (h _)
        | some b => exact wpAny_pure (h _)
theorem hashBy_keys : ∀ (ks : List NestedKey) (vs : List Value) (n : Nat) (A : Around) (s : Shared), NestedAll s.heap ks vs -> ∀ u ∈ vs, ∀ Q : Bool -> Shared -> Prop, (∀ b, Q b s) -> wpAny (model P w) A (hashByValue n u) Q E s
  | [], _, n, A, s, x, u, hu => by cases x; cases hu
  | k :: ks, _, n, A, s, x, u, hu => by
    cases x with
    | cons x1 x2 =>
      intro Q h
      rcases List.mem_cons.mp hu with z | z
      · rw [z]; exact hashBy_key k _ n A s Q x1 h
      · exact hashBy_keys ks _ n A s x2 u z Q h
end
end
end Sa
set_option maxHeartbeats 1600000
namespace Sa
open PySem PySem.Spec PyProof.Rows L2
theorem all_places {α : Type} : ∀ l : List α, (List.range l.length).filterMap (l[·]?) = l
  | [] => rfl
  | x :: l => by
    rw [List.length_cons, List.range_succ_eq_map, List.filterMap_cons]
    show x :: _ = _
    rw [List.filterMap_map]
    exact congrArg _ (all_places l)
theorem at_places {α β : Type} (l : List α) (f : α -> β) (d : β) : ∀ is : List Nat, (∀ i ∈ is, i < l.length) -> (is.filterMap (l[·]?)).map f = is.map fun i => ((l.map f).toArray).getD i d
  | [], _ => rfl
  | i :: is, h => by
    have lt := h i List.mem_cons_self
    rw [List.filterMap_cons, List.getElem?_eq_getElem lt, List.map_cons, List.map_cons, at_places l f d is fun j hj => h j (List.mem_cons_of_mem _ hj)]
    congr 1
    simp [lt]
section
variable {P : Program} {w : World} {A : Around} {E : Value -> Shared -> Prop} {s : Shared} {a x : Addr} {L : Keys} {ep : Nat} {t : SetTable} {k : NestedKey}
/-- the table laid anew -/
theorem laid_anew {o : Obj} {wanted M : Nat} {Q : Unit -> Shared -> Prop} (at' : s.heap.get? a = some o) (ex : o.ExactSet) (dt : o.data = .set (L.map (entOf w)).toArray ep t) (tab : TabOk t (L.map fun p => p.2.hash w)) (led : w.params.followText "set-order" = true ∨ t.led = true)
    (le : L.length <= t.mask) (size : SetTable.sizeAbove wanted = M + 1) (hM : MaskOk M) (wide : L.length * 5 < M * 3) (few : L.length < 64)
    (hQ : ∀ (h' : Heap) (L' : Keys) (ep' : Nat) (t' : SetTable), Heap.SameBut a s.heap h' -> Bears w h' a L' ep' t' -> L'.Perm L -> Q () { s with heap := h' }) :
    wpAny (model P w) A (setRelay a wanted) Q E s := by
  have count : t.place.size = L.length := by simpa using tab.sz
  have fits : t.fits (L.map (entOf w)).toArray.size = true := by
    simp [SetTable.fits, SetTable.fill, tab.dm]
    omega
  have hs : (L.map (entOf w)).toArray.map (·.1) = (L.map fun p => p.2.hash w).toArray := by simp
  obtain ⟨t', order, eq, perm, tab', mask', led', _, _⟩ := relaid_ok t (hs := (L.map (entOf w)).toArray.map (·.1)) (wanted := wanted) (M := M) (by omega) hM (by simp; omega)
  have n : ((L.map (entOf w)).toArray.map (·.1)).size = L.length := by simp
  rw [n] at perm
  rw [hs] at tab'
  have es : (order.filterMap ((L.map (entOf w)).toArray[·]?)) = ((order.toList.filterMap (L[·]?)).map (entOf w)).toArray := by
    apply Array.ext'
    rw [Array.toList_filterMap, List.map_filterMap]
    congr 1
    funext i
    simp
  have permL : (order.toList.filterMap (L[·]?)).Perm L := by
    have z := perm.filterMap (L[·]?)
    rwa [all_places] at z
  have len := permL.length_eq
  have line : SetTable.sizeAbove wanted <= sizeLine := by
    rw [size]
    rcases hM with e | e | e <;> rw [e] <;> decide
  rw [setRelay_eq]
  refine wpAny_bind (wpAny_setState_of at' dt fits ?_)
  simp only [Nat.not_lt.mpr line, gt_iff_lt, if_false, eq, es]
  have same : ((((order.toList.filterMap (L[·]?)).map (entOf w)).toArray.size != (L.map (entOf w)).toArray.size)) = false := by simp [len]
  simp only [same, Bool.false_eq_true, if_false]
  refine wpAny_bind (wpAny_pure ?_)
  refine wpAny_storeSet_of at' dt (hQ _ (order.toList.filterMap (L[·]?)) (ep + 1) t' (Heap.SameBut.update ..) ⟨⟨_, store_at at' dt, ⟨ex.1, ex.2.1, ex.2.2⟩, rfl⟩, ?_, by rw [led']; exact led, by rw [len, mask']; exact wide⟩ permL) ?_
  · rw [at_places L (fun p => p.2.hash w) 0 _ fun i hi => List.mem_range.mp (perm.mem_iff.mp hi)]
    exact tab'
  · rw [List.size_toArray, List.length_map, len]
    exact Nat.le_trans (Nat.le_of_lt few) (by decide)
/-- a key put in: it is there, or it comes to the others -/
theorem put_key {Q : Bool -> Shared -> Prop} (B : Bears w s.heap a L ep t) (keys : ∀ p ∈ L, KeyAt s.heap p.2 p.1) (hx : KeyAt s.heap k x) (room : A.units + 8 < cLine) (few : L.length + 1 < 64)
    (old : k ∈ L.map (·.2) -> Q false s)
    (new : k ∉ L.map (·.2) -> ∀ (h' : Heap) (L' : Keys) (ep' : Nat) (t' : SetTable), Heap.SameBut a s.heap h' -> Bears w h' a L' ep' t' -> L'.Perm ((x, k) :: L) -> Q true { s with heap := h' }) :
    wpAny (model P w) A (setAddHashed a (.ref x) (k.hash w)) Q E s := by
  obtain ⟨o, at', ex, dt⟩ := B.obj
  have wide := B.wide
  unfold setAddHashed
  refine wpAny_holding ?_
  rw [show (100000 : Nat) = 99999 + 1 from rfl, setAddHashedIn_succ]
  refine wpAny_bind (wpAny_setState_of at' dt B.fits ?_)
  have noScan : byScan (.ref x) (L.map (entOf w)).toArray = false := rfl
  simp only [noScan, Bool.false_eq_true, if_false]
  refine wpAny_bind (search B keys hx room (fun mem => wpAny_pure (old mem)) fun K out free full => ?_)
  simp only
  refine wpAny_bind (wpAny_setState_of at' dt B.fits ?_)
  obtain ⟨place, le, tab1, mask1, led1, _, _, _, fill1⟩ := B.tab.put free full
  have new := new out
  rw [List.length_map] at le fill1
  generalize SetTable.below t.place (way t.mask (k.hash w) K) = n at place le tab1
  generalize t.put (way t.mask (k.hash w) K) = tp at place tab1 mask1 led1 fill1
  obtain ⟨t1, n1⟩ := tp
  simp only at place tab1 mask1 led1 fill1 ⊢
  subst place
  -- the keys behind it, in the table's order
  have order : (L.map fun p => p.2.hash w).take n1 ++ k.hash w :: (L.map fun p => p.2.hash w).drop n1 = (L.take n1 ++ (x, k) :: L.drop n1).map fun p => p.2.hash w := by simp
  have entries : SetTable.insertAt (L.map (entOf w)).toArray n1 (k.hash w, Value.ref x) = ((L.take n1 ++ (x, k) :: L.drop n1).map (entOf w)).toArray := by
    apply Array.ext'
    rw [SetTable.toList_insertAt]
    simp
  have perm : (L.take n1 ++ (x, k) :: L.drop n1).Perm ((x, k) :: L) := by
    refine List.perm_middle.trans ?_
    rw [List.take_append_drop]
  have len := perm.length_eq
  rw [order] at tab1
  generalize L.take n1 ++ (x, k) :: L.drop n1 = L1 at *
  rw [List.length_cons] at len
  -- what is left to do, whether the hash goes by value or not
  have rest : ∀ t2 : SetTable, t2.mask = t1.mask -> t2.led = t1.led -> t2.fill = t1.fill -> TabOk t2 (L1.map fun p => p.2.hash w) -> wpAny (model P w) A (do
      storeSet a (SetTable.insertAt (L.map (entOf w)).toArray n1 (k.hash w, Value.ref x)) t2
      if (!false && t2.tooFull) = true then setRelay a (SetTable.grown ((L.map (entOf w)).toArray.size + 1))
      return true) Q E s := by
    intro t2 m2 l2 f2 tab2
    rw [entries]
    refine wpAny_bind (wpAny_storeSet_of at' dt ?_ (by rw [List.size_toArray, List.length_map, len]; exact Nat.le_trans (Nat.le_of_lt few) (by decide)))
    have at2 := store_at (es' := (L1.map (entOf w)).toArray) (t' := t2) at' dt
    have but : Heap.SameBut a s.heap (s.heap.update a (Obj.putSet (L1.map (entOf w)).toArray t2)) := Heap.SameBut.update ..
    generalize s.heap.update a (Obj.putSet (L1.map (entOf w)).toArray t2) = h2 at at2 but
    have led2 : w.params.followText "set-order" = true ∨ t2.led = true := by rw [l2, led1]; exact B.led
    cases full2 : t2.tooFull with
    | false =>
      simp only [Bool.and_false, Bool.false_eq_true, if_false]
      refine wpAny_pure (new h2 L1 (ep + 1) t2 but ⟨⟨_, at2, ⟨ex.1, ex.2.1, ex.2.2⟩, rfl⟩, tab2, led2, ?_⟩ perm)
      unfold SetTable.tooFull at full2
      rw [decide_eq_false_iff_not, f2, fill1] at full2
      rw [len]
      omega
    | true =>
      simp only [Bool.not_false, Bool.and_self, if_true]
      unfold SetTable.tooFull at full2
      rw [decide_eq_true_eq, f2, fill1, m2, mask1] at full2
      have size : ∃ M, SetTable.sizeAbove (SetTable.grown ((L.map (entOf w)).toArray.size + 1)) = M + 1 /\ MaskOk M /\ (L.length + 1) * 5 < M * 3 := by
        rw [List.size_toArray, List.length_map]
        rcases B.tab.mok with e | e | e <;> rw [e] at full2 wide
        · have : L.length = 4 := by omega
          rw [this]
          exact ⟨31, size_20, .inr (.inl rfl), by decide⟩
        · have : L.length = 18 := by omega
          rw [this]
          exact ⟨127, size_76, .inr (.inr rfl), by decide⟩
        · omega
      obtain ⟨M, z1, z2, z3⟩ := size
      refine wpAny_bind (laid_anew (s := { s with heap := h2 }) (o := { o with data := .set (L1.map (entOf w)).toArray (ep + 1) t2 }) at2 ⟨ex.1, ex.2.1, ex.2.2⟩ rfl tab2 led2 (by rw [len, m2, mask1]; omega) z1 z2 (by rw [len]; exact z3) (by omega) fun h3 L3 ep3 t3 but3 B3 perm3 => ?_)
      exact wpAny_pure (new h3 L3 ep3 t3 (but.trans but3) B3 (perm3.trans perm))
  have both : ∀ b : Bool, wpAny (model P w) A (do
      let t2 := if b = true then t1 else { t1 with plain := false }
      storeSet a (SetTable.insertAt (L.map (entOf w)).toArray n1 (k.hash w, Value.ref x)) t2
      if (!false && t2.tooFull) = true then setRelay a (SetTable.grown ((L.map (entOf w)).toArray.size + 1))
      return true) Q E s := fun b => by
    cases b with
    | true => exact rest t1 rfl rfl rfl tab1
    | false => exact rest { t1 with plain := false } rfl rfl rfl ⟨tab1.ris, tab1.dm, tab1.sz, tab1.mok, tab1.bd, tab1.reach⟩
  split
  · exact wpAny_bind (hashBy_key k _ 8 A s _ hx.1 both)
  · exact wpAny_bind (wpAny_pure (both true))
end
end Sa
set_option maxHeartbeats 3200000
namespace Sa
open PySem PySem.Spec PyProof.Rows L2
/-- few unlike keys -/
def FewKeys (ks : Keys) : Prop := ∀ M : List NestedKey, M.Nodup -> (∀ k ∈ M, k ∈ ks.map (·.2)) -> M.length + 1 < 64
/-- L has what the first i of ks are, each key once -/
structure Once (ks : Keys) (i : Nat) (L : Keys) : Prop where
  some' : ∀ p ∈ L, ∃ j, j < i /\ ks[j]? = some p
  all : ∀ j p, j < i -> ks[j]? = some p -> p.2 ∈ L.map (·.2)
  dif : (L.map (·.2)).Nodup
theorem Once.zero (ks : Keys) : Once ks 0 [] := ⟨fun _ h => (nomatch h), fun _ _ h => absurd h (Nat.not_lt_zero _), List.nodup_nil⟩
theorem Once.same {ks L : Keys} {i : Nat} {p : Addr × NestedKey} (o : Once ks i L) (e : ks[i]? = some p) (old : p.2 ∈ L.map (·.2)) : Once ks (i + 1) L where
  some' := fun q hq => let ⟨j, lt, ej⟩ := o.some' q hq; ⟨j, Nat.lt_succ_of_lt lt, ej⟩
  all := fun j q lt ej => by
    rcases Nat.lt_succ_iff_lt_or_eq.mp lt with lt | rfl
    · exact o.all j q lt ej
    · cases e.symm.trans ej
      exact old
  dif := o.dif
theorem Once.more {ks L L' : Keys} {i : Nat} {p : Addr × NestedKey} (o : Once ks i L) (e : ks[i]? = some p) (new : p.2 ∉ L.map (·.2)) (pm : L'.Perm (p :: L)) : Once ks (i + 1) L' where
  some' := fun q hq => by
    rcases List.mem_cons.mp (pm.mem_iff.mp hq) with rfl | hq
    · exact ⟨i, Nat.lt_succ_self _, e⟩
    · obtain ⟨j, lt, ej⟩ := o.some' q hq
      exact ⟨j, Nat.lt_succ_of_lt lt, ej⟩
  all := fun j q lt ej => by
    refine (pm.map (·.2)).mem_iff.mpr ?_
    rcases Nat.lt_succ_iff_lt_or_eq.mp lt with lt | rfl
    · exact List.mem_cons_of_mem _ (o.all j q lt ej)
    · cases e.symm.trans ej
      exact List.mem_cons_self
  dif := (pm.map (·.2)).nodup_iff.mpr (List.nodup_cons.mpr ⟨new, o.dif⟩)
theorem Once.few {ks L : Keys} {i : Nat} (o : Once ks i L) (few : FewKeys ks) : L.length + 1 < 64 := by
  have z := few (L.map (·.2)) o.dif fun k hk => by
    obtain ⟨q, hq, rfl⟩ := List.mem_map.mp hk
    obtain ⟨j, _, ej⟩ := o.some' q hq
    exact List.mem_map.mpr ⟨q, List.mem_of_getElem? ej, rfl⟩
  simpa using z
/-- the new set -/
abbrev emptySet (w : World) : Obj := { cls := .type "set", dict := none, data := .set #[] 0 (.fresh 0 0 (!w.params.followText "set-order")) }
theorem bears_none {w : World} {h : Heap} {a : Addr} (at' : h.get? a = some (emptySet w)) : Bears w h a [] 0 (.fresh 0 0 (!w.params.followText "set-order")) where
  obj := ⟨_, at', ⟨rfl, rfl, rfl⟩, rfl⟩
  tab := ⟨.nil, rfl, rfl, .inl rfl, fun _ h => (nomatch h), fun i _ _ h => by simp at h⟩
  led := by
    cases e : w.params.followText "set-order" with
    | true => exact .inl rfl
    | false => exact .inr rfl
  wide := (by decide : 0 * 5 < 7 * 3)
section
variable {P : Program} {w : World} {A : Around} {s : Shared}
/-- set.update's loop by an invariant -/
theorem update_by {I S : Addr} {fp wr : List Addr} {G : Array GenState -> Array GenState -> Prop} {n : Nat} {Pv : Nat -> Value -> Prop} {St : Nat -> Shared -> Prop} {R : Result -> Shared -> Prop} {J : Nat -> Shared -> Prop} (W : WalksS P w A.in1 I fp wr G n Pv St)
    (keep : ∀ i s s', J i s -> Moved wr G s s' -> J i s') (step : ∀ i v s, i < n -> Pv i v -> J i s -> St (i + 1) s -> ∀ Q : Bool -> Shared -> Prop, (∀ b s', J (i + 1) s' -> St (i + 1) s' -> Q b s') -> wpAny (model P w) A.in1 (setAdd S v) Q (fun e s' => R (.error e) s') s)
    (fin : ∀ s, J n s -> R (.ok (.ret .none)) s) : ∀ (m i : Nat) (s : Shared), i + m = n -> St i s -> J i s -> codeAny (model P w) A (.builtin "set.update.loop" ⟨[.ref S, .ref I], []⟩) R s := by
  intro m
  induction m with
  | zero =>
    intro i s e st j
    cases (show i = n from e)
    refine codeAny_builtin F.entry_set_update_loop ?_
    rw [Around.under_plainId F.plain_set_update_loop _]
    unfold Builtin.«set.update.loop»
    exact wpAny_bind (W.done s _ _ st fun s' mv => wpAny_pure (fin s' (keep _ s s' j mv)))
  | succ m ih =>
    intro i s e st j
    refine codeAny_builtin F.entry_set_update_loop ?_
    rw [Around.under_plainId F.plain_set_update_loop _]
    unfold Builtin.«set.update.loop»
    refine wpAny_bind (W.item i s _ _ (by omega) st fun v s1 hv st1 mv => ?_)
    exact wpAny_bind (wpAny_holding (step i v s1 (by omega) hv (keep i s s1 j mv) st1 _ fun b s2 j2 st2 => wpAny_pure ⟨plainId_quiet F.plain_set_update_loop _, ih (i + 1) s2 (by omega) st2 j2⟩))
/-- calling a type with one thing: what __new__ makes, __init__ fills -/
theorem type_call1 {T newId initId : String} {v : Value} {Q Q1 : Value -> Shared -> Prop} {E : Value -> Shared -> Prop} (ft : TypeCalled T newId initId) (args : checkTypeCall T ⟨[v], []⟩ = pure ())
    (new : codeAny (model P w) A.in1 (.call (.builtin newId) ⟨[.type T, v], []⟩) (wants Q1 E) s)
    (init : ∀ obj s1, Q1 obj s1 -> s1.TypeIs obj T /\ codeAny (model P w) A.in1 (.call (.builtin initId) ⟨[obj, v], []⟩) (wants (fun r s2 => r = .none /\ Q obj s2) E) s1) :
    wpAny (model P w) A (call (.type T) [v]) Q E s := by
  obtain ⟨c, tl, mro⟩ := ft.mro
  have n1 := ft.notType
  have n2 := ft.canCreate
  have made := ft.made
  have sub := ft.sub
  refine wpAny_call (codeAny_of_tree (show wpAny _ _ (callAny (.type T) _) _ _ _ from ?_))
  refine wpAny_pure ⟨Code.quiet_builtin _ (by decide +kernel), codeAny_builtin F.entry_type_call ?_⟩
  rw [Around.under_plain (weight_type_call_type T [v] []) (units_type_call_type T [v] [])]
  unfold Builtin.«type.__call__»
  simp only [n1, n2, Bool.false_eq_true, if_false]
  refine wpAny_bind (wpAny_of_eq args (wpAny_bind (wpAny_of_eq mro ?_)))
  simp only [List.isEmpty_cons, Bool.false_eq_true, if_false]
  refine wpAny_bind (wpAny_of_eq made (wpAny_bind (wpAny_pure (wpAny_bind (wpAny_holding (wpAny_call (codeAny_mono new fun r s1 out => ?_)))))))
  match r, out with
  | .ok (.ret obj), out =>
    obtain ⟨isT, fill⟩ := init obj s1 out
    refine wpAny_bind (wpAny_isInstance isT sub ?_)
    simp only [Bool.not_true, Bool.false_eq_true, if_false]
    refine wpAny_bind (wpAny_holding (wpAny_callSpecial?_slot isT ft.init (wpAny_call (codeAny_mono fill fun r2 s2 out2 => ?_))))
    match r2, out2 with
    | .ok (.ret _), ⟨rfl, q⟩ => exact wpAny_pure q
    | .error e, out2 => exact out2
    | .ok .next, out2 => exact out2.elim
    | .ok .brk, out2 => exact out2.elim
    | .ok .cont, out2 => exact out2.elim
  | .error e, out => exact out
  | .ok .next, out => exact out.elim
  | .ok .brk, out => exact out.elim
  | .ok .cont, out => exact out.elim
/-- some name for a type of the builtins -/
theorem named {T : String} {v : Value} {n : Nat} {Q : String -> Shared -> Prop} {E : Value -> Shared -> Prop} (isT : s.TypeIs v T) (other : (Value.type T == Value.type "builtin_function_or_method") = false) (q : ∀ x, Q x s) : wpAny (model P w) A (typeNameOfCut n v) Q E s := by
  unfold typeNameOfCut shownTypeOf
  refine wpAny_bind (wpAny_bind (wpAny_typeOf isT ?_))
  rw [other]
  exact wpAny_pure (wpAny_pure (q _))
/-- __init__ of a new set, from a list -/
theorem init_set {S l : Addr} {items : Array Value} {Q : Value -> Shared -> Prop} {E : Value -> Shared -> Prop} (at' : s.heap.get? S = some (emptySet w)) (isL : s.heap.IsList l items)
    (loop : codeAny (model P w) A.in1 (.builtin "set.update.loop" ⟨[.ref S, .ref s.heap.objs.size], []⟩) (wants (fun r s' => Q .none s') E) { s with heap := s.heap.push { cls := .type "list_iterator", data := .fields #[.ref l, .int 0 0] } }) :
    codeAny (model P w) A (.call (.builtin "set.__init__") ⟨[.ref S, .ref l], []⟩) (wants Q E) s := by
  have isS : s.TypeIs (.ref S) "set" := ⟨_, at', rfl⟩
  refine codeAny_call_builtin F.called_set.init.plain F.entry_set_init (check_set_init_1 isS ?_)
  unfold Builtin.«set.__init__» Builtin.Frozenset.updateFrom
  refine wpAny_bind (m := noKeywords _ _) (wpAny_pure (wpAny_bind (named isS (by decide) fun x => wpAny_bind (m := checkCount _ _ _ _) (wpAny_pure (wpAny_bind (m := Builtin.Frozenset.addrOf _) (wpAny_pure ?_))))))
  have isNew : (SetTable.fresh 0 0 (!w.params.followText "set-order")).fits (#[] : Array (Int × Value)).size = true := by cases w.params.followText "set-order" <;> decide +kernel
  refine wpAny_bind (wpAny_bind (m := setState _) (wpAny_setState_of at' rfl isNew (wpAny_pure ?_)))
  rw [if_neg (by simp [SetTable.fill, SetTable.fresh])]
  refine wpAny_bind (wpAny_bind (m := Builtin.Frozenset.isAnySet _) (wpAny_bind (wpAny_isInstance isL.typeIs F.sub_list_set ?_)))
  refine wpAny_isInstance isL.typeIs F.sub_list_frozenset ?_
  rw [if_neg (by decide)]
  refine wpAny_bind (wpAny_typeOf isL.typeIs ?_)
  rw [if_neg (by decide)]
  refine wpAny_bind (wpAny_pyIter_list isL (wpAny_bind (wpAny_runValue (codeAny_mono loop fun r s' out => ?_))))
  match r, out with
  | .ok (.ret _), out => exact wpAny_pure (wpAny_pure out)
  | .error e, out => exact out
  | .ok .next, out => exact out.elim
  | .ok .brk, out => exact out.elim
  | .ok .cont, out => exact out.elim
/-- set(xs), xs a list of keys: each once -/
theorem call_set_keys {E : Value -> Shared -> Prop} {l : Addr} {items : Array Value} {ks : Keys} {Q : Value -> Shared -> Prop} (calm : A.handled = none) (isL : s.heap.IsList l items) (isK : items.toList = ks.map fun p => Value.ref p.1) (keys : ∀ p ∈ ks, KeyAt s.heap p.2 p.1)
    (few : FewKeys ks) (room : A.units + 16 < cLine)
    (hQ : ∀ (h' : Heap) (tk : Nat) (L : Keys) (ep : Nat) (t : SetTable), Bears w h' s.heap.objs.size L ep t -> Once ks ks.length L -> (∀ b o, s.heap.get? b = some o -> h'.get? b = some o) -> Q (.ref s.heap.objs.size) { s with heap := h', toks := tk }) :
    wpAny (model P w) A (call (.type "set") [.ref l]) Q E s := by
  have many : items.size = ks.length := by simpa using congrArg List.length isK
  have lt : l < s.heap.objs.size := let ⟨_, at', _⟩ := isL; Heap.lt_size at'
  refine type_call1 F.called_set (F.typeCall_set_1 _) (code_set_led1 (.ref l) (Q₁ := fun obj s1 => obj = .ref s.heap.objs.size /\ s1 = { s with heap := s.heap.push (emptySet w) }) ⟨rfl, rfl⟩) fun obj s1 made => ?_
  obtain ⟨rfl, rfl⟩ := made
  have atS : (s.heap.push (emptySet w)).get? s.heap.objs.size = some (emptySet w) := Heap.get?_push_size _ rfl
  have two : (s.heap.push (emptySet w)).objs.size = s.heap.objs.size + 1 := Heap.size_push ..
  refine ⟨⟨_, atS, rfl⟩, init_set (A := A.in1) (s := { s with heap := s.heap.push (emptySet w) }) atS (isL.push _) ?_⟩
  have W := (Walks.list (prog := P) (w := w) (A := A.in1.in1.in1) calm (s.heap.push (emptySet w)).objs.size l (by rw [two]; exact Nat.ne_of_lt (Nat.lt_succ_of_lt lt)) items).toS
  -- behind i things: what stood ahead of it stands, and the set has these
  refine update_by W (J := fun i s' => (∀ b o, s.heap.get? b = some o -> s'.heap.get? b = some o) /\ (∃ tk, s' = { s with heap := s'.heap, toks := tk }) /\ ∃ L ep t, Bears w s'.heap s.heap.objs.size L ep t /\ Once ks i L) ?_ ?_ ?_ items.size 0 _ (Nat.zero_add _) ⟨⟨_, Heap.get?_push_size _ rfl, rfl, rfl⟩, (isL.push _).push _⟩
    ⟨fun b o e => Heap.get?_push_of_some _ (Heap.get?_push_of_some _ e), ⟨s.toks, rfl⟩, [], 0, _, bears_none (Heap.get?_push_of_some _ atS), Once.zero ks⟩
  · rintro i s1 s2 ⟨old, ⟨tk, es⟩, L, ep, t, B, once⟩ mv
    have notI : ∀ b, b < s.heap.objs.size + 1 -> b ∉ [(s.heap.push (emptySet w)).objs.size] := fun b hb z => by
      rw [List.mem_singleton.mp z, two] at hb
      exact Nat.lt_irrefl _ hb
    refine ⟨fun b o e => mv.heap b o (notI b (Nat.lt_succ_of_lt (Heap.lt_size e))) (old b o e), ⟨s2.toks, ?_⟩, L, ep, t, ?_, once⟩
    · have e1 : s2.gens = s1.gens := mv.gens
      have e2 := mv.drawn
      have e3 := mv.os
      rw [es] at e1 e2 e3
      cases s2
      cases e1; cases e2; cases e3
      rfl
    · obtain ⟨o, at', r⟩ := B.obj
      exact ⟨⟨o, mv.heap _ _ (notI _ (Nat.lt_succ_self _)) at', r⟩, B.tab, B.led, B.wide⟩
  · rintro i v s1 hi hv ⟨old, ⟨tk, es⟩, L, ep, t, B, once⟩ st1 R hR
    obtain ⟨p, ep', rfl⟩ : ∃ p, ks[i]? = some p /\ v = .ref p.1 := by
      have z : items.toList[i]? = some v := by simpa using hv
      rw [isK, List.getElem?_map] at z
      obtain ⟨p, e1, e2⟩ := Option.map_eq_some_iff.mp z
      exact ⟨p, e1, e2.symm⟩
    have key : ∀ q ∈ ks, KeyAt s1.heap q.2 q.1 := fun q hq => ⟨NestedIs.at (fun b o _ _ e _ => old b o e) _ _ (keys q hq).1, (keys q hq).2⟩
    have hp := key p (List.mem_of_getElem? ep')
    have own : ∀ q ∈ L, KeyAt s1.heap q.2 q.1 := fun q hq => let ⟨_, _, e⟩ := once.some' q hq; key q (List.mem_of_getElem? e)
    unfold setAdd
    refine wpAny_holding (wpAny_bind (pyHash_key p.2 _ _ s1 _ hp.1 (by have := hp.2; show A.units + 1 + 1 + 1 + p.2.depth < cLine; omega) ?_))
    refine put_key (s := { s1 with toks := s1.toks + p.2.draws }) B own hp (by show A.units + 1 + 1 + 1 + 8 < cLine; omega) (once.few few) (fun mem => ?_) fun out h' L' ep2 t2 but B' pm => ?_
    · refine hR _ _ ⟨old, ⟨s1.toks + p.2.draws, by rw [es]⟩, L, ep, t, B, once.same ep' mem⟩ (W.frame _ s1 _ _ st1 (Nat.le_add_right _ _) fun _ _ _ e => e)
    · have ne : ∀ b o, s.heap.get? b = some o -> b ≠ s.heap.objs.size := fun b o e => Nat.ne_of_lt (Heap.lt_size e)
      refine hR _ _ ⟨fun b o e => (but.2 b (ne b o e)).trans (old b o e), ⟨s1.toks + p.2.draws, by rw [es]⟩, L', ep2, t2, B', once.more ep' out pm⟩ (W.frame _ s1 _ _ st1 (Nat.le_add_right _ _) fun b hb o e => (but.2 b fun z => ?_).trans e)
      rw [z, two] at hb
      simp only [List.mem_cons, List.not_mem_nil, or_false] at hb
      rcases hb with z | z
      · exact Nat.ne_of_lt (Nat.lt_succ_self _) z
      · exact Nat.ne_of_gt lt z
  · rintro s1 ⟨old, ⟨tk, es⟩, L, ep, t, B, once⟩
    rw [many] at once
    rw [es]
    exact ⟨rfl, hQ s1.heap tk L ep t B once old⟩
end
end Sa
set_option maxHeartbeats 1600000
namespace Sa
open PySem PySem.Spec PyProof.Rows L2
/-- data as keys -/
abbrev keyOf (p : Addr × PyData) : Addr × NestedKey := (p.1, nk p.2)
/-- the set at a has L, in some table -/
def Held (w : World) (h : Heap) (a : Addr) (L : Keys) : Prop := ∃ ep t, Bears w h a L ep t
/-- such a set, as a tracked thing -/
def KsO (w : World) (a : Addr) (L : Keys) : HO := .ext fun h => Held w h a L
theorem Bears.few {w : World} {h : Heap} {a : Addr} {L : Keys} {ep : Nat} {t : SetTable} (B : Bears w h a L ep t) : L.length < 100 := by
  have := B.wide
  rcases B.tab.mok with e | e | e <;> rw [e] at this <;> omega
theorem Held.tracked {P : Program} {w : World} {H : Hp} {h : Heap} {a : Addr} {L : Keys} (x : Held w h a L) : ObjOk P w H h a (KsO w a L) := by
  refine ⟨x, ?_, fun h1 h2 ⟨ep, t, B⟩ kept => ?_⟩
  · obtain ⟨ep, t, B⟩ := x
    exact B.obj.imp fun o r => r.1
  · obtain ⟨o, at', r⟩ := B.obj
    exact ⟨ep, t, ⟨o, kept o at', r⟩, B.tab, B.led, B.wide⟩
/-- the refs of some pairs in another order: the pairs in another order -/
theorem reorder {α : Type} {f : α -> Value} : ∀ {vs : List Value} {L : List α}, vs.Perm (L.map f) -> ∃ L' : List α, L'.Perm L /\ vs = L'.map f := by
  intro vs L pm
  generalize e : L.map f = us at pm
  induction pm generalizing L with
  | nil => exact ⟨[], by rw [List.map_eq_nil_iff.mp e], rfl⟩
  | cons x _ ih =>
    cases L with
    | nil => cases e
    | cons p L =>
      cases e
      obtain ⟨L', pm, rfl⟩ := ih rfl
      exact ⟨p :: L', pm.cons p, rfl⟩
  | swap x y l =>
    match L, e with
    | p :: q :: L, e =>
      cases e
      exact ⟨q :: p :: L, .swap p q L, rfl⟩
  | trans _ _ ih1 ih2 =>
    obtain ⟨L2, pm2, e2⟩ := ih2 e
    obtain ⟨L1, pm1, e1⟩ := ih1 e2.symm
    exact ⟨L1, pm1.trans pm2, e1⟩
theorem each_refs {α β : Type} {R : α -> β -> Prop} {f : β -> α} : ∀ (L : List β), (∀ p ∈ L, R (f p) p) -> PySem.W.EachIs R (L.map f) L
  | [], _ => .nil
  | p :: L, h => .cons (h p List.mem_cons_self) (each_refs L fun q hq => h q (List.mem_cons_of_mem _ hq))
theorem refs_each : ∀ {out : List Value} {L : List (Addr × PyData)}, PySem.W.EachIs (fun v b => v = Value.ref b.1) out L -> out = L.map fun p => Value.ref p.1
  | [], [], _ => rfl
  | v :: out, p :: L, .cons e r => by
    rw [e, refs_each r]
    rfl
theorem refs_of : ∀ {L : List (Addr × PyData)} {us : List Value}, Vals (L.map fun p => V.ref p.1) us -> us = L.map fun p => Value.ref p.1
  | [], us, r => by cases r; rfl
  | p :: L, us, r => by
    cases r with
    | cons r1 r2 =>
      cases r1
      rw [refs_of r2]
      rfl
theorem vals_of : ∀ (L : List (Addr × PyData)), Vals (L.map fun p => V.ref p.1) (L.map fun p => Value.ref p.1)
  | [] => .nil
  | _ :: L => .cons rfl (vals_of L)
section
variable {P : Program} {w : World} {A : Around} {E : Value -> Shared -> Prop} {s : Shared}
/-- sorted(set): the things of the set as data say -/
theorem sorted_held {a : Addr} {L : List (Addr × PyData)} {Q : Value -> Shared -> Prop} (calm : A.handled = none) (hK : Held w s.heap a (L.map keyOf)) (reads : ∀ p ∈ L, ∃ as, Reads s.heap (.ref p.1) p.2 as) (alike : PySem.W.AllAlike (L.map (·.2))) (tups : ∀ p ∈ L, ∃ y r, p.2 = .tuple (y :: r))
    (deep : ∀ p ∈ L, A.units + 2 + p.2.depth < cLine)
    (hQ : ∀ s' l (c : Nat) (L' : List (Addr × PyData)), (∀ b o, s.heap.get? b = some o -> s'.heap.get? b = some o) -> s'.gens = s.gens -> s'.os = s.os -> s.heap.objs.size <= l -> L'.Perm L ->
      s'.heap.get? l = some (seqObj "list" ((L'.mergeSort (PySem.W.dataLe false (·.2))).map fun q => Value.ref q.1).toArray c) -> Q (.ref l) s') :
    wpAny (model P w) A (call (.builtin "sorted") [.ref a]) Q E s := by
  obtain ⟨ep, t, B⟩ := hK
  have few := B.few
  obtain ⟨o, at', ex, dt⟩ := B.obj
  rw [List.length_map] at few
  have vals : ((L.map keyOf).map (entOf w)).toArray.toList.map (·.2) = L.map fun p => Value.ref p.1 := by simp
  have line : ∀ n, n < 100 -> n <= sizeLine := fun n h => Nat.le_trans (Nat.le_of_lt h) (by decide)
  refine Calls.call_function_entry kind_sorted plain_sorted entry_sorted (args_sorted1 _) ?_
  refine wpAny_bind (m := checkCount "sorted" 1 1 _) (wpAny_pure (wpAny_bind (collect_set (A := A.in1) calm ⟨o, at', ex.1, dt⟩ B.fits (by simp only [List.size_toArray, List.length_map]; unfold scanBound; omega) B.tab.ris B.led fun s1 vs kept grown gens os pm => ?_)))
  rw [vals] at pm
  obtain ⟨L1, pm1, rfl⟩ := reorder pm
  have len := pm1.length_eq
  refine wpAny_bind (wpAny_newList ?_ (by rw [List.length_map, len]; exact line _ few))
  have atL : (s1.heap.push (seqObj "list" (L1.map fun p => Value.ref p.1).toArray 0)).get? s1.heap.objs.size = some (seqObj "list" (L1.map fun p => Value.ref p.1).toArray 0) := Heap.get?_push_size _ rfl
  have old : ∀ b ob, s.heap.get? b = some ob -> b < s1.heap.objs.size := fun b ob e => Heap.lt_size (kept b ob e)
  refine wpAny_bind (wpAny_holding (PySem.W.list_sort_data (R := fun v b => v = Value.ref b.1) (enc := fun b : Addr × PyData => b.2) (bs := L1) (s := { s1 with heap := s1.heap.push (seqObj "list" (L1.map fun p => Value.ref p.1).toArray 0) }) atL
    (each_refs L1 fun _ _ => rfl) (each_refs L1 fun p hp => ?_) (fun d1 h1 d2 h2 => alike d1 ((pm1.map (·.2)).mem_iff.mp h1) d2 ((pm1.map (·.2)).mem_iff.mp h2)) (.inl fun d hd => ?_) (by rw [len]; exact line _ few) (fun b hb => deep b (pm1.mem_iff.mp hb)) fun out _ each => ?_))
  · obtain ⟨as, r⟩ := reads p (pm1.mem_iff.mp hp)
    refine ⟨as, PyProof.Rows.Reads.keeps (fun b ob e => Heap.get?_push_of_some _ (kept b ob e)) r, fun z => ?_⟩
    obtain ⟨ob, e⟩ := PyProof.On.reads_mem_get r _ z
    exact Nat.lt_irrefl _ (old _ ob e)
  · obtain ⟨p, hp, rfl⟩ := List.mem_map.mp hd
    exact tups p (pm1.mem_iff.mp hp)
  · cases refs_each each
    obtain ⟨c, at2⟩ := sortedHeap_at (vs := L1.map fun p => Value.ref p.1) (out := ((L1.mergeSort (PySem.W.dataLe false (·.2))).map fun q => Value.ref q.1).toArray) atL
    refine wpAny_pure ⟨_, rfl, hQ _ s1.heap.objs.size c L1 (fun b ob e => ?_) gens os grown pm1 at2⟩
    refine (sortedHeap_old (Nat.ne_of_lt (old b ob e)) (by rw [size_push']; exact Nat.lt_succ_of_lt (old b ob e))).trans ?_
    exact Heap.get?_push_of_some _ (kept b ob e)
end
section
variable {X : Cx}
/-- what a key of a set has to be -/
def KeyOk (K : PySem.W.Frag) (H : Hp) (p : Addr × PyData) : Prop := Dp K H (.ref p.1) p.2 /\ flat p.2 = true /\ (nk p.2).depth <= 8
/-- set(xs), xs a list of nested tuples: its keys once each -/
def rSetK (K : PySem.W.Frag) (w : World) : List V -> Hp -> VK -> Prop := fun vs H Q => ∃ (l : Addr) (ds : List (Addr × PyData)), vs = [.ref l] /\ SqL K H l (ds.map fun p => V.ref p.1) /\ (∀ p ∈ ds, KeyOk K H p) /\ FewKeys (ds.map keyOf) /\
  ∀ a (L : List (Addr × PyData)), H a = none -> (∀ p ∈ L, p ∈ ds) -> (∀ p ∈ ds, nk p.2 ∈ L.map fun q => nk q.2) -> (L.map fun q => nk q.2).Nodup -> Q (.ref a) (upd H a (KsO w a (L.map keyOf)))
theorem cr_setK (calm : X.calm = true) (hu : X.A.units + 64 < cLine) : CallR X (.type "set") (rSetK X.K X.w) := by
  intro pins s σ H vs us Q I rel ⟨l, ds, ev, hl, keys, few, q⟩
  subst ev
  rw [Vals.ref1 rel]
  obtain ⟨its, rv, isL, _⟩ := I.list hl
  cases refs_of rv
  refine call_set_keys (ks := ds.map keyOf) (I.ok.hd calm) isL.isList (by simp) (fun p hp => ?_) few (by omega) fun h' tk M ep t B once kept => ?_
  · obtain ⟨d, hd, rfl⟩ := List.mem_map.mp hp
    obtain ⟨dp, fl, deep⟩ := keys d hd
    obtain ⟨as, r⟩ := Dp.reads I d.2 _ _ dp (rfl : RelV (.ref d.1) (.ref d.1))
    exact ⟨nk_is d.2 _ _ r fl, deep⟩
  · have from' : ∀ p ∈ M, ∃ d ∈ ds, keyOf d = p := fun p hp => by
      obtain ⟨j, _, ej⟩ := once.some' p hp
      exact List.mem_map.mp (List.mem_of_getElem? ej)
    obtain ⟨L, rfl, sub⟩ : ∃ L : List (Addr × PyData), M = L.map keyOf /\ ∀ p ∈ L, p ∈ ds := by
      clear B once kept q
      induction M with
      | nil => exact ⟨[], rfl, fun _ no => (nomatch no)⟩
      | cons m M ih =>
        obtain ⟨L, e, sub⟩ := ih fun p hp => from' p (List.mem_cons_of_mem _ hp)
        obtain ⟨d, hd, ed⟩ := from' m List.mem_cons_self
        exact ⟨d :: L, by rw [e, <- ed]; rfl, List.forall_mem_cons.mpr ⟨hd, sub⟩⟩
    refine ⟨.ref s.heap.objs.size, _, I.laid (t' := tk) kept (Nat.le_refl _) (Held.tracked ⟨ep, t, B⟩), rfl, q _ L (I.hok.fresh (Nat.le_refl _)) sub (fun p hp => ?_) ?_⟩
    rotate_left
    · have z := once.dif
      rwa [List.map_map] at z
    obtain ⟨j, jl, ej⟩ := List.getElem_of_mem hp
    have z := once.all j (keyOf p) (by simpa using jl) (by rw [List.getElem?_map, List.getElem?_eq_getElem jl, ej]; rfl)
    simpa using z
/-- sorted of it -/
def rSortK (K : PySem.W.Frag) (w : World) : List V -> Hp -> VK -> Prop := fun vs H Q => ∃ (a : Addr) (L : List (Addr × PyData)), vs = [.ref a] /\ H a = some (KsO w a (L.map keyOf)) /\ (∀ p ∈ L, Dp K H (.ref p.1) p.2) /\ PySem.W.AllAlike (L.map (·.2)) /\ (∀ p ∈ L, ∃ y r, p.2 = .tuple (y :: r)) /\ (∀ p ∈ L, p.2.depth <= 60) /\ L.length < 64 /\
  ∀ p (L' : List (Addr × PyData)), H p = none -> L'.Perm L -> Q (.ref p) (upd H p (.lst ((L'.mergeSort (PySem.W.dataLe false (·.2))).map fun q => V.ref q.1)))
theorem cr_sortK (calm : X.calm = true) (hu : X.A.units + 64 < cLine) : CallR X (.builtin "sorted") (rSortK X.K X.w) := by
  intro pins s σ H vs us Q I rel ⟨a, L, ev, ha, hd, alike, tups, deep, few, q⟩
  subst ev
  rw [Vals.ref1 rel]
  have held : Held X.w s.heap a (L.map keyOf) := (I.hok a _ ha).1
  refine sorted_held (I.ok.hd calm) held (fun p hp => Dp.reads I p.2 _ _ (hd p hp) (rfl : RelV (.ref p.1) (.ref p.1))) alike tups (fun p hp => by have := deep p hp; omega) fun s' l c L' kept gens os new pm at' => ?_
  have fresh : H l = none := I.hok.fresh new
  have small : ((L'.mergeSort (PySem.W.dataLe false (·.2))).map fun q => V.ref q.1).length <= sizeLine := by
    rw [List.length_map, List.length_mergeSort, pm.length_eq]
    exact Nat.le_trans (Nat.le_of_lt few) (by decide)
  obtain ⟨h2, g2, d2, t2, os2⟩ := s'
  cases (show os2 = s.os from os)
  exact ⟨.ref l, _, I.call (ch := []) (g' := g2) (d' := d2) (t' := t2) (Un.laid kept new fresh) (I.hok.laid (o := .lst ((L'.mergeSort (PySem.W.dataLe false (·.2))).map fun q => V.ref q.1)) kept new ⟨small, _, c, vals_of _, at'⟩) (by rw [show g2 = s.gens from gens]; exact I.bare) (fun _ no => (nomatch no)), rfl, q l L' fresh pm⟩
end
end Sa
set_option maxHeartbeats 3200000
namespace Sa
open PySem PySem.Spec PyProof.Rows L2
/-- an entry: the key's place, the key, the value -/
abbrev KEnt := Addr × NestedKey × V
abbrev kdRel (p : KEnt) (q : NestedKey × Addr × Value) : Prop := q.1 = p.2.1 /\ q.2.1 = p.1 /\ RelV p.2.2 q.2.2
/-- the dict at a, its keys left out of sight -/
def Kd0 (w : World) (h : Heap) (a : Addr) (L : List KEnt) : Prop := (a == sysModules) = false /\ L.length <= sizeLine /\ ∃ xs : List (NestedKey × Addr × Value), Paired kdRel L xs /\
  (∃ o es ep, h.get? a = some o /\ o.ExactDict /\ o.data = .dict es ep /\ es.toList = xs.map fun x => (⟨x.1.hash w, .ref x.2.1, x.2.2⟩ : DictEntry)) /\ (xs.map (·.1)).Nodup
/-- such a dict, as a tracked thing -/
def KdO (w : World) (a : Addr) (L : List KEnt) : HO := .ext fun h => Kd0 w h a L
/-- what is tracked at a says that such a dict is there -/
def KdAt (w : World) (H : Hp) (a : Addr) (L : List KEnt) : Prop := ∃ p, H a = some (.ext p) /\ ∀ h, p h -> Kd0 w h a L
theorem KdAt.of {w : World} {H : Hp} {a : Addr} {L : List KEnt} (e : H a = some (KdO w a L)) : KdAt w H a L := ⟨_, e, fun _ h => h⟩
theorem kdO_ok {P : Program} {w : World} {H : Hp} {h : Heap} {a : Addr} {L : List KEnt} (x : Kd0 w h a L) : ObjOk P w H h a (KdO w a L) := by
  obtain ⟨z, sm, xs, pr, ⟨o, es, ep, ho, r⟩, nd⟩ := id x
  exact ⟨x, ⟨o, ho⟩, fun h1 h2 q k => let ⟨z, sm, xs, pr, ⟨o, es, ep, ho, r⟩, nd⟩ := q; ⟨z, sm, xs, pr, ⟨o, es, ep, k o ho, r⟩, nd⟩⟩
theorem Kd0.of {P : Program} {w : World} {h : Heap} {a : Addr} {L : List KEnt} {xs : List (NestedKey × Addr × Value)} (z : (a == sysModules) = false) (sm : L.length <= sizeLine) (pr : Paired kdRel L xs) (hm : h.DictOfH (nestedKind P w) a xs) : Kd0 w h a L := by
  obtain ⟨o, es, ep, ho, ex, hd, he, _, nd⟩ := hm
  exact ⟨z, sm, xs, pr, ⟨o, es, ep, ho, ex, hd, he⟩, nd⟩
/-- what stands at a key; a key stored -/
def kdGet (L : List KEnt) (k : NestedKey) : Option V := (L.find? fun p => decide (p.2.1 = k)).map (·.2.2)
def kdPut (L : List KEnt) (a : Addr) (k : NestedKey) (v : V) : List KEnt := if (kdGet L k).isSome then L.map fun p => if p.2.1 = k then (p.1, p.2.1, v) else p else L ++ [(a, k, v)]
section
variable {X : Cx} {pins : List (Addr × Obj)} {σ : L2.St} {H : Hp} {s : Shared}
theorem kd_at {a : Addr} {L : List KEnt} (I : Inv X pins σ H s) (e : KdAt X.w H a L) : Kd0 X.w s.heap a L := let ⟨_, h, i⟩ := e; i _ (I.hok a _ h).1
/-- the keys stand -/
def KeysAt (K : PySem.W.Frag) (H : Hp) (L : List KEnt) : Prop := ∀ p ∈ L, ∃ d, Dp K H (.ref p.1) d /\ flat d = true /\ nk d = p.2.1 /\ (nk d).depth <= 8
theorem key_is {a : Addr} {d : PyData} (I : Inv X pins σ H s) (hd : Dp X.K H (.ref a) d) (f : flat d = true) (dp : (nk d).depth <= 8) : KeyAt s.heap (nk d) a := by
  obtain ⟨as, r⟩ := Dp.reads I d _ _ hd (rfl : RelV (.ref a) (.ref a))
  exact ⟨nk_is d _ as r f, dp⟩
theorem KeysAt.all {L : List KEnt} (I : Inv X pins σ H s) (h : KeysAt X.K H L) : ∀ p ∈ L, KeyAt s.heap p.2.1 p.1 := fun p hp => by
  obtain ⟨d, h1, h2, h3, h4⟩ := h p hp
  rw [<- h3]
  exact key_is I h1 h2 h4
theorem not_mods (I : Inv X pins σ H s) : (s.heap.objs.size == sysModules) = false := (dk_empty (P := X.prog) (w := X.w) (H := H) s.heap I.big).2.1
/-- {} -/
def tKdNew (w : World) : TE := fun _ H Q => ∀ p, H p = none -> Q (.ref p) (upd H p (KdO w p []))
theorem pe_kdNew {pos : Pos} : PE X (.Dict [] [] pos) (tKdNew X.w) := ⟨fun pins s σ H Q I h => by
  refine wpAny_Dict_empty ⟨.ref s.heap.objs.size, _, I.laid (a := s.heap.objs.size) (o := KdO X.w s.heap.objs.size []) (t' := s.toks) (fun _ _ q => Heap.get?_push_of_some _ q) (Nat.le_refl _) ?_, rfl, h _ (I.hok.fresh (Nat.le_refl _))⟩
  exact kdO_ok (Kd0.of (P := X.prog) (not_mods I) (Nat.zero_le _) .nil (Heap.DictOfH.new _))⟩
end
end Sa
set_option maxHeartbeats 1600000
namespace Sa
open PySem PySem.Spec PyProof.Rows L2 PySem.W PySem.SeqAt
mutual
/-- x < y can be asked: down to the first place where they differ they are alike -/
def near : PyData -> PyData -> Bool
  | .tuple xs, .tuple ys => nearAll xs ys
  | x, y => alike x y
def nearAll : List PyData -> List PyData -> Bool
  | x :: xs, y :: ys => if PyData.eqv x y = true then nearAll xs ys else near x y
  | _, _ => true
end
end Sa
namespace Sa
open PySem PySem.Spec PyProof.Rows L2 PySem.W PySem.SeqAt
end Sa
namespace Sa
open PySem PySem.Spec PyProof.Rows L2 PySem.W PySem.SeqAt
mutual
/-- a value reads as one datum -/
theorem reads_one {h : Heap} : ∀ (x y : PyData) (v : Value) (as bs : List Addr), flat x = true -> flat y = true -> Reads h v x as -> Reads h v y bs -> x = y
  | .tuple xs, y, v, as, bs, fx, fy, a, b => by
    cases a with
    | @tuple l o vs k _ _ ho hc hd ra =>
      cases b with
      | @tuple _ o2 vs2 k2 _ _ ho2 hc2 hd2 rb =>
        rw [ho] at ho2
        cases ho2
        rw [hd] at hd2
        cases hd2
        rw [readsAll_one xs _ _ _ _ fx fy ra rb]
      | list => cases fy
      | dict => cases fy
  | .none, y, v, as, bs, fx, fy, a, b => by cases a; cases b; rfl
  | .bool _, y, v, as, bs, fx, fy, a, b => by cases a; cases b; rfl
  | .int _, y, v, as, bs, fx, fy, a, b => by cases a; cases b; rfl
  | .str _, y, v, as, bs, fx, fy, a, b => by cases a; cases b; rfl
  | .list _, _, _, _, _, fx, _, _, _ => by cases fx
  | .dict _, _, _, _, _, fx, _, _, _ => by cases fx
theorem readsAll_one {h : Heap} : ∀ (xs ys : List PyData) (vs : List Value) (as bs : List Addr), flats xs = true -> flats ys = true -> ReadsAll h vs xs as -> ReadsAll h vs ys bs -> xs = ys
  | [], _, _, _, _, _, _, a, b => by cases a; cases b; rfl
  | x :: xs, ys, _, _, _, fx, fy, a, b => by
    cases a with
    | cons a1 a2 =>
      cases b with
      | cons b1 b2 =>
        simp only [flats, Bool.and_eq_true] at fx fy
        rw [reads_one x _ _ _ _ fx.1 fy.1 a1 b1, readsAll_one xs _ _ _ _ fx.2 fy.2 a2 b2]
end
/-- what a list must be to be sorted: tuples of flat data, near one another, the first items of one type -/
structure Rows (ds : List PyData) : Prop where
  fl : ∀ d ∈ ds, flat d = true
  nr : ∀ d ∈ ds, ∀ d' ∈ ds, near d d' = true
  tup : ∀ d ∈ ds, ∃ x r, d = .tuple (x :: r)
  one : ∃ T, (T == T) = true /\ ∀ x r, PyData.tuple (x :: r) ∈ ds -> dataType x = T
open Classical in
theorem Rows.key {h : Heap} {ds : List PyData} (R : Rows ds) {v : Value} {d : PyData} {as : List Addr} (hd : d ∈ ds) (r : Reads h v d as) : (dataKind h ds).keyOf v = some (keyToks d) := by
  have q : ∃ d, d ∈ ds /\ ∃ as, Reads h v d as := ⟨d, hd, as, r⟩
  show (if q : ∃ d, d ∈ ds /\ ∃ as, Reads h v d as then some (keyToks q.choose) else none) = _
  rw [dif_pos q]
  obtain ⟨m, bs, r2⟩ := q.choose_spec
  rw [reads_one _ _ v _ _ (R.fl _ m) (R.fl _ hd) r2 r]
end Sa
namespace Sa
open PySem PySem.Spec PyProof.Rows L2 PySem.W DT L2.DX
end Sa
namespace Sa
open PySem PySem.Spec PySem.Calls PyProof.Rows L2 PySem.W DT L2.DX
end Sa
namespace Sa
open PySem PySem.Spec PySem.Calls PyProof.Rows L2 PySem.W DT L2.DX
end Sa
namespace Sa
open PySem PySem.Spec PySem.Calls PyProof.Rows L2 PySem.W DT L2.DX
end Sa
namespace Sa
open PySem PySem.Spec PySem.Calls PyProof.Rows L2 PySem.W
end Sa
namespace Sa
open PySem PySem.Spec PyProof.Rows L2
/-- the table at P has its form -/
abbrev Tb (H : Hp) (P : Addr) : Prop := GxR.TabG H P
/-- H' is H but for the table at P -/
abbrev TbTo (P : Addr) (H H' : Hp) : Prop := GxR.Tabbed P H H'
end Sa
set_option maxHeartbeats 3200000
namespace Gn
open PySem PySem.Spec PyProof.Rows L2 Sa
/-- the context of the generator's frame: begun at s, its iterator's objects at fp, woken in A' -/
abbrev gx (X : Cx) (s : Shared) (H : Hp) (ev : Env) (fp : List Addr) (A' : Around) : Cx :=
  { X with s_0 := s, H_0 := H, env := ev, A := A', outer := X.stack, stack := ev :: X.stack, ex := fp, fn := fun _ => false, pn := [], xe := fun _ _ => False }
theorem cells_none : ∀ (l : List (Str × NameKind)) (n : Nat) (acc : List (Str × Addr)), (∀ y ∈ l, y.2 ≠ .cell) -> cellsFrom n l acc = acc
  | [], _, _, _ => rfl
  | (x, k) :: l, n, acc, h => by
    have hk : (k == NameKind.cell) = false := by simpa using h _ List.mem_cons_self
    simp only [cellsFrom, hk, Bool.false_eq_true, if_false]
    exact cells_none l n acc fun y hy => h y (List.mem_cons_of_mem _ hy)
theorem push_none : ∀ (l : List (Str × NameKind)) (h : Heap), (∀ y ∈ l, y.2 ≠ .cell) -> pushCells h l = h
  | [], _, _ => rfl
  | (x, k) :: l, h, no => by
    have hk : (k == NameKind.cell) = false := by simpa using no _ List.mem_cons_self
    simp only [pushCells, hk, Bool.false_eq_true, if_false]
    exact push_none l h fun y hy => no y (List.mem_cons_of_mem _ hy)
/-- the kind of a name in a block that is a block's of env -/
def kindIn (env : Env) (x : Str) (k : NameKind) : NameKind := if k == .free && env.scope.kind == .function && env.kindOf x == some .cell then .cell else k
theorem lookup_kinds (f : Str -> NameKind -> NameKind) (x : Str) : ∀ l : List (Str × NameKind), (l.map fun p => (p.1, f p.1 p.2)).lookup x = (l.lookup x).map (f x)
  | [] => rfl
  | (n, k) :: l => by
    simp only [List.map_cons, List.lookup_cons]
    cases e : x == n with
    | true => rw [eq_of_beq e]; rfl
    | false => exact lookup_kinds f x l
theorem kind_relabel (scope : Scope) (env : Env) (x : Str) : (relabel scope env).names.lookup x = (scope.names.lookup x).map (kindIn env x) := by
  rw [<- lookup_kinds]
  show (scope.names.map _).lookup x = _
  congr 2
  funext p
  unfold kindIn
  dsimp only
  split <;> rfl
theorem kindIn_out {env : Env} {x : Str} {k : NameKind} : (kindIn env x k = .local ↔ k = .local) /\ (kindIn env x k = .cell ∨ kindIn env x k = .free ↔ k = .cell ∨ k = .free) := by
  unfold kindIn
  split
  · rename_i h
    simp only [Bool.and_eq_true, beq_iff_eq] at h
    simp [h.1.1]
  · simp
section
variable {X : Cx} {σ : L2.St} {H : Hp} {s : Shared} {pins : List (Addr × Obj)}
theorem gen_start {scope : Scope} {own : List (Str × Nat)} {fp : List Addr} {code : Value} {A' : Around} {h' : Heap} {mm : Str -> Option Value} {g' : Array GenState} {tk : Nat}
    (I : Inv X pins σ H s) (ok : BlkOk X.N X.env.scope scope own) (hN : X.N.Nodup) (hcell : ∀ y ∈ scope.names, y.2 ≠ .cell) (hfp : ∀ b ∈ fp, FpOk X pins H b /\ b < s.heap.objs.size)
    (hA1 : A'.handled = none) (hA2 : A'.frames = some (genEnv scope (cloFrom X.env.cells scope.names []) s.heap.objs.size code builtinsNs X.env :: X.stack))
    (ns : h'.Ns s.heap.objs.size mm) (same : Heap.SameBut s.heap.objs.size (s.heap.push { cls := .type "frame", data := .dict #[] }) h') (hg : AllBare g') :
    Inv (gx X s H (genEnv scope (cloFrom X.env.cells scope.names []) s.heap.objs.size code builtinsNs X.env) fp A') [] (wipe σ (own.map (·.2))) H { s with heap := h', gens := g', toks := tk } := by
  have B := block_start I ok hN hfp
  rw [cells_none _ _ _ hcell, push_none _ _ hcell] at B
  have old : ∀ b o, s.heap.get? b = some o -> h'.get? b = some o := fun b o e => by
    rw [same.2 b (Nat.ne_of_lt (Heap.lt_size e))]
    exact Heap.get?_push_of_some _ e
  -- a cell of the block stands ahead of it
  have cellOld : ∀ c v, (s.heap.push { cls := .type "dict", data := .dict #[] }).IsCell c v -> h'.IsCell c v := fun c v ⟨o, at', isC⟩ => by
    rcases Heap.get?_push_cases at' with ⟨_, z⟩ | z
    · rw [z] at isC
      cases isC
    · exact ⟨o, old c o z, isC⟩
  have kinds := fun x => kind_relabel scope X.env x
  refine
    { ok :=
        { mod := B.ok.mod, kind := ok.kind, glob := I.ok.glob, blt := rfl, above := Nat.le_refl _, inj := B.ok.inj, has := fun x hx => ?_, cab := fun _ _ no => (nomatch no), hd := fun _ => hA1, frames := hA2, stk := .inr ⟨rfl, rfl⟩,
          exf := B.ok.exf, bs := B.ok.bs, bsz := B.ok.bsz, noex := B.ok.noex, exfs := B.ok.exfs, funs := B.ok.funs, frf := B.ok.frf }
      os := rfl, bare := hg, base := Un.kept old, loc := ?_, cell := fun x c e => (B.cell x c e).imp (cellOld c), free := B.free, freeC := B.freeC, pin := fun p no => (nomatch no), hok := I.hok.kept old, len := B.len }
  · have hx : scope.names.lookup x = some .cell ∨ scope.names.lookup x = some .free := hx
    refine B.ok.has x ?_
    show (relabel scope X.env).names.lookup x = _ ∨ (relabel scope X.env).names.lookup x = _
    rw [kinds]
    rcases hx with hx | hx <;> rw [hx]
    · simpa using (kindIn_out (env := X.env) (x := x) (k := .cell)).2.mpr (.inl rfl)
    · simpa using (kindIn_out (env := X.env) (x := x) (k := .free)).2.mpr (.inr rfl)
  · obtain ⟨m, nsB, look⟩ := B.loc
    refine ⟨mm, ns, fun i x v hi hv vis => ?_⟩
    have none' : m x = none := nsB.agree (Heap.Ns.new s.heap _) x
    have visB : Vis (relabel scope X.env) x := by
      unfold Vis
      rw [kinds]
      have vis : Vis scope x := vis
      rcases vis with e | e | e <;> rw [e]
      · exact .inl (congrArg some (kindIn_out.1.mpr rfl))
      · exact .inr (by simpa using (kindIn_out (env := X.env) (x := x) (k := .cell)).2.mpr (.inl rfl))
      · exact .inr (by simpa using (kindIn_out (env := X.env) (x := x) (k := .free)).2.mpr (.inr rfl))
    obtain ⟨u, rel, ⟨_, inM⟩ | ⟨kind, c, hc, isC⟩⟩ := look i x v hi hv visB
    · rw [none'] at inM
      cases inM
    · refine ⟨u, rel, .inr ⟨?_, c, hc, cellOld c _ isC⟩⟩
      show scope.names.lookup x = _ ∨ scope.names.lookup x = _
      have kind : (relabel scope X.env).names.lookup x = some .cell ∨ (relabel scope X.env).names.lookup x = some .free := kind
      rw [kinds] at kind
      cases e : scope.names.lookup x with
      | none => rw [e] at kind; simp at kind
      | some k =>
        rw [e] at kind
        simpa using (kindIn_out (env := X.env) (x := x) (k := k)).2.mp (by simpa using kind)
end
end Gn
namespace Gn
open PySem PySem.Spec PyProof.Rows L2 Sa
abbrev gexp (elt tg iter : Expr) (ifs : List Expr) (scope : Scope) (pos : Pos) : Expr := .GeneratorExp elt [⟨tg, iter, ifs, 0⟩] scope pos
/-- the around of the generator's frame, woken in A -/
abbrev ovr (A : Around) (elt tg iter : Expr) (ifs : List Expr) (scope : Scope) (pos : Pos) (it : Addr) (cenv : Env) : Around := A.over (.compLoop (gexp elt tg iter ifs scope pos) 0 (.ref it) .none cenv) []
section
variable {A : Around} {elt tg iter : Expr} {ifs : List Expr} {scope : Scope} {pos : Pos} {it : Addr} {cenv : Env}
theorem ovr_fr {l : List Env} (h : A.frames = some l) : (ovr A elt tg iter ifs scope pos it cenv).frames = some (cenv :: l) := by
  obtain ⟨hdd, d, fr, gd0, u⟩ := A
  cases h
  simp [Around.over, marksOver, frameCount, unitsOf, envsOf, guardsOf, pushEnvs, pushGuards, Code.envs, Code.env?, Code.isFrame]
theorem ovr_gd {l : List Code} (h : A.guards = some l) : (ovr A elt tg iter ifs scope pos it cenv).guards = some l := by
  obtain ⟨hdd, d, fr, gd0, u⟩ := A
  cases h
  simp [Around.over, marksOver, frameCount, unitsOf, envsOf, guardsOf, pushEnvs, pushGuards, Code.guards, Code.isGuard]
end
abbrev Pins := List (Addr × Obj)
/-- the generator sleeps (or is about to run): i of the walked things are gone; gp its own object, ps the consumer's -/
structure GG (Xg : Cx) (σw : L2.St) (fp : List Addr) (tn : Nat -> Heap -> Prop) (gp : Addr × Obj) (ps : Pins) (i : Nat) (H : Hp) (s : Shared) : Prop where
  inv : Inv Xg (gp :: ps) σw H s
  tn : tn i s.heap
  nf : ∀ b ∈ fp, H b = none
  ap : ∀ p ∈ gp :: ps, p.1 ∉ fp
abbrev GP := Pins -> Nat -> Hp -> Shared -> Prop
abbrev NX := List V -> Hp -> Prop
def GYx (G : GP) (Pn : Pins -> List V -> Prop) (Yv : NX -> List V -> V -> Hp -> Prop) : Protocol := fun n s0 v s kap =>
  ∃ (ps : Pins) (ys : List V) (i : Nat) (y : V) (H : Hp) (Nx : NX), n + 1 + ys.length = sizeLine + 1 /\ ys.length < sizeLine /\ RelV y v /\ (∀ p ∈ ps, s0.heap.get? p.1 = some p.2) /\ Pn ps ys /\ G ps i H s /\ Yv Nx ys y H /\
    ∀ ps' s', Pn ps' (ys ++ [y]) -> G ps' i H s' -> Nx (ys ++ [y]) H -> kap (.send .none) s'
def GPx (Xg : Cx) (σw : L2.St) (gp : Addr × Obj) (Pn : Pins -> List V -> Prop) (Qe : NX) : Nat -> Shared -> Shared -> Prop := fun _ s0 s => ∃ (ps : Pins) (ys : List V) (H : Hp), (∀ p ∈ ps, s0.heap.get? p.1 = some p.2) /\ Pn ps ys /\ Inv Xg (gp :: ps) σw H s /\ Qe ys H
abbrev GRx (Xg : Cx) (σw : L2.St) (gp : Addr × Obj) (Pn : Pins -> List V -> Prop) (Qe : NX) : GenEnd := fun n s0 r s => r = .ok .next /\ GPx Xg σw gp Pn Qe n s0 s
/-- what is asked of a turn -/
def Turns (J : It) (g : TG) (tt : TT) (te : TE) (vs : List Nat) (σw : L2.St) (Yv : NX -> List V -> V -> Hp -> Prop) (Qe : NX) (W : Nat -> Nat -> List V -> Hp -> Prop) : Prop := ∀ i m ys H, W i m ys H ->
  (J.stop i H /\ Qe ys H) ∨ (J.go i H /\ ∃ Nx : NX, (∀ ys' H', Nx ys' H' -> ∃ m', m' < m /\ W (i + 1) m' ys' H') /\ ∀ x H', J.yld i H x H' -> g x σw H' fun σ2 H2 => wipe σ2 vs = σw /\ tt σ2 H2 fun b H3 =>
    if b = true then te σ2 H3 fun y H4 => ys.length < sizeLine /\ Yv Nx ys y H4 else Nx ys H3)
section
variable {Xg : Cx} {A : Around} {elt tg iter : Expr} {ifs : List Expr} {scope : Scope} {pos : Pos} {it : Addr} {J : It} {fp : List Addr} {tn : Nat -> Heap -> Prop} {g : TG} {tt : TT} {te : TE} {vs : List Nat} {σw : L2.St} {gp : Addr × Obj} {Pn : Pins -> List V -> Prop} {Yv : NX -> List V -> V -> Hp -> Prop} {Qe : NX} {W : Nat -> Nat -> List V -> Hp -> Prop}
theorem segG (hA : ovr A elt tg iter ifs scope pos it Xg.env = Xg.A) (T : Turn Xg.prog Xg.w Xg.K tg J fp it tn) (pg : PG Xg tg g) (pt : PTs Xg ifs tt) (pe : PE Xg elt te) (hx : Xg.xe = fun _ _ => False) (calm : Xg.calm = true) (ex : Xg.ex = fp) (pn : Xg.pn = [])
    (hco : Xg.env.scope.isCoroutine = false) (hw : ∃ σ0, σw = wipe σ0 vs)
    (turn : Turns J g tt te vs σw Yv Qe W) :
    ∀ (m n i : Nat) (ys : List V) (ps : Pins) (s0 s : Shared) (H : Hp), n + ys.length = sizeLine + 1 -> W i m ys H -> (∀ p ∈ ps, s0.heap.get? p.1 = some p.2) -> Pn ps ys -> GG Xg σw fp tn gp ps i H s ->
      Seg (model Xg.prog Xg.w) A (GRx Xg σw gp Pn Qe) (GYx (GG Xg σw fp tn gp) Pn Yv) n s0 (.compLoop (gexp elt tg iter ifs scope pos) 0 (.ref it) .none Xg.env)
        ((model Xg.prog Xg.w).den (.compLoop (gexp elt tg iter ifs scope pos) 0 (.ref it) .none Xg.env)) [] s := by
  obtain ⟨σ0, hσ0⟩ := hw
  intro m
  induction m using Nat.strongRecOn with
  | ind m ih =>
    intro n i ys ps s0 s H hn w hs0 hPn G
    have stat : ∀ {σ' : L2.St} {H' : Hp} {s' : Shared}, Inv Xg (gp :: ps) σ' H' s' -> (∀ b ∈ fp, H' b = none) -> ∀ b ∈ fp, FpOk Xg (gp :: ps) H' b := fun {σ' H' s'} I' hn b hb =>
      ⟨hn b hb, (I'.ok.exf b (by rw [ex]; exact hb)).1, I'.ok.exfs b (by rw [ex]; exact hb), .inl (by rw [ex]; exact hb), fun x c eb => (I'.ok.exf b (by rw [ex]; exact hb)).2 x c eb, fun p hp z => by
        rw [pn, List.nil_append] at hp
        exact G.ap p hp (by rw [z]; exact hb)⟩
    show Seg _ A _ _ _ s0 _ ((compTurn (gexp elt tg iter ifs scope pos) 0 (.ref it) .none Xg.env).onRaise (leaving Xg.env)) [] s
    rw [compTurn_gen, Sem.onRaise_eq_wrap]
    refine seg_bind_wrap (wpAny_standAt (seg_bind_wrap ?_))
    show wpAny _ (ovr A elt tg iter ifs scope pos it Xg.env) _ _ _ _
    rw [hA]
    rcases turn i m ys H w with ⟨stop, qq⟩ | ⟨go, Nx, hNx, step⟩
    · refine thnF (T.done Xg rfl rfl rfl calm i _ s _ H (fun _ _ => False) G.inv (stat G.inv G.nf) G.tn stop) fun r s6 ⟨hr, I6⟩ => ?_
      subst hr
      exact seg_end (.ok .next) ⟨rfl, ps, ys, H, hs0, hPn, I6, qq⟩
    · refine thnF (T.item Xg rfl rfl rfl calm i _ s _ H (fun _ _ => False) G.inv (stat G.inv G.nf) G.tn go) fun r s6 ⟨u, hr, h6a⟩ => ?_
      subst hr
      refine seg_bind_wrap ?_
      show wpAny _ (ovr A elt tg iter ifs scope pos it Xg.env) _ _ _ _
      rw [hA]
      refine thnF h6a fun _ s7a ⟨x, H7, I7a, r7a, y7a, st7a, n7a⟩ => ?_
      have P7 := I7a.pinned (stat I7a n7a) (T.obj _ _ st7a)
      refine seg_bind_wrap ?_
      show wpAny _ (ovr A elt tg iter ifs scope pos it Xg.env) _ _ _ _
      rw [hA]
      have pgr := pg.run _ s7a _ H7 x u _ P7 r7a (step x H7 y7a)
      rw [hx] at pgr
      refine thnF pgr fun _ s8 ⟨σ8, H8, I8, hw8, q8⟩ => ?_
      have fin : ∀ {s' : Shared} {H' : Hp}, Inv Xg ((gp :: ps) ++ pinsAt fp s7a.heap) σ8 H' s' -> GG Xg σw fp tn gp ps (i + 1) H' s' := fun {s' H'} I' => by
        have pinF : ∀ b ∈ fp, ∀ o, s7a.heap.get? b = some o -> s'.heap.get? b = some o /\ H' b = none := fun b hb o eb =>
          let z := I'.pin (b, o) (List.mem_append_right _ (List.mem_append_right _ (mem_pinsAt hb eb)))
          ⟨z.1, z.2.1⟩
        have hl : σw.length = σ8.length := by rw [<- hw8, wipe_length]
        refine ⟨(I'.unpinned (pins := gp :: ps)).weak hl (fun j v eb => ?_), T.keep _ _ _ st7a fun b hb o eb => (pinF b hb o eb).1, fun b hb => ?_, G.ap⟩
        · rw [<- hw8] at eb
          exact (wipe_some eb).1
        · obtain ⟨o, eb, _⟩ := T.obj _ _ st7a b hb
          exact (pinF b hb o eb).2
      refine seg_bind_wrap ?_
      show wpAny _ (ovr A elt tg iter ifs scope pos it Xg.env) _ _ _ _
      rw [hA]
      have ptr := pt.run _ s8 σ8 H8 _ I8 q8
      rw [hx] at ptr
      refine thnF ptr fun b s9 ⟨H9, I9, q9⟩ => ?_
      cases b with
      | false =>
        simp only [Bool.false_eq_true, if_false] at q9 ⊢
        obtain ⟨m', lt, w'⟩ := hNx ys H9 q9
        exact seg_again rfl (ih m' lt n (i + 1) ys ps s0 s9 H9 hn w' hs0 hPn (fin I9))
      | true =>
        simp only [if_true] at q9 ⊢
        have hy : ∀ u, yieldOut Xg.env u = yieldValue u := fun u => by simp only [yieldOut, hco, Bool.false_eq_true, if_false]
        simp only [hy]
        rw [Sem.bind_eq_wrap', Sem.bind_eq_wrap', Sem.wrap_wrap, Sem.wrap_wrap]
        refine seg_wrap ?_
        show wpAny _ (ovr A elt tg iter ifs scope pos it Xg.env) _ _ _ _
        rw [hA]
        have per := pe.run _ s9 σ8 H9 _ I9 q9
        rw [hx] at per
        refine thnF per fun z s10 ⟨yv, H10, I10, r10, small, q10⟩ => ?_
        obtain ⟨n', rfl⟩ : ∃ n', n = n' + 1 := ⟨n - 1, by omega⟩
        refine seg_at (seg_yield rfl rfl rfl ⟨ps, ys, i + 1, yv, H10, Nx, hn, small, r10, hs0, hPn, fin I10, q10, fun ps' s' pn' G' nx => ?_⟩)
        obtain ⟨m', lt, w'⟩ := hNx _ H10 nx
        exact seg_again rfl (ih m' lt n' (i + 1) (ys ++ [yv]) ps' s' s' H10 (by rw [List.length_append]; simp; omega) w' (fun p hp => (G'.inv.pin p (List.mem_append_right _ (List.mem_cons_of_mem _ hp))).1) pn' G')
end
end Gn
namespace Gn
open PySem PySem.Spec PyProof.Rows L2 Sa
theorem bare_set {g : Array GenState} {x : GenState} (i : Nat) (h : AllBare g) (hx : x.bare = true) : AllBare (g.setIfInBounds i x) := fun y hy => by
  rcases Array.mem_or_eq_of_mem_setIfInBounds hy with z | z
  · exact h y z
  · rw [z]; exact hx
section
variable {X : Cx} {pins : Pins} {σ : L2.St} {H : Hp} {s : Shared}
theorem inv_gens {g' : Array GenState} (I : Inv X pins σ H s) (h : AllBare g') : Inv X pins σ H { s with gens := g' } :=
  ⟨I.ok, I.os, h, I.base, I.loc, I.cell, I.free, I.freeC, I.pin, I.hok, I.len⟩
theorem inv_heap {h' : Heap} {t : Nat} (I : Inv X pins σ H s) (k : ∀ b u, s.heap.get? b = some u -> h'.get? b = some u) : Inv X pins σ H { s with heap := h', toks := t } := I.kept k
end
section
variable {Xg : Cx} {A : Around} {elt tg iter : Expr} {ifs : List Expr} {scope : Scope} {pos : Pos} {it : Addr} {J : It} {fp : List Addr} {tn : Nat -> Heap -> Prop} {g : TG} {tt : TT} {te : TE} {vs : List Nat} {σw : L2.St} {gp : Addr × Obj} {Pn : Pins -> List V -> Prop} {Yv : NX -> List V -> V -> Hp -> Prop} {Qe : NX} {W : Nat -> Nat -> List V -> Hp -> Prop}
theorem GG.gens {ps : Pins} {i : Nat} {H : Hp} {s : Shared} {g' : Array GenState} (G : GG Xg σw fp tn gp ps i H s) (h : AllBare g') : GG Xg σw fp tn gp ps i H { s with gens := g' } :=
  ⟨inv_gens G.inv h, G.tn, G.nf, G.ap⟩
theorem GG.setGen {ps : Pins} {i : Nat} {H : Hp} {s : Shared} {x : GenState} (k : Nat) (G : GG Xg σw fp tn gp ps i H s) (h : x.bare = true) : GG Xg σw fp tn gp ps i H (s.setGen k x) := G.gens (bare_set k G.inv.bare h)
/-- the first turn -/
theorem segG0 (hA : ovr A elt tg iter ifs scope pos it Xg.env = Xg.A) (T : Turn Xg.prog Xg.w Xg.K tg J fp it tn) (pg : PG Xg tg g) (pt : PTs Xg ifs tt) (pe : PE Xg elt te) (hx : Xg.xe = fun _ _ => False) (calm : Xg.calm = true) (ex : Xg.ex = fp) (pn : Xg.pn = [])
    (hco : Xg.env.scope.isCoroutine = false) (hw : ∃ σ0, σw = wipe σ0 vs)
    (turn : Turns J g tt te vs σw Yv Qe W) (m n : Nat) (ps : Pins) (s0 s : Shared) (H : Hp) (hn : n = sizeLine + 1) (w : W 0 m [] H) (hs0 : ∀ p ∈ ps, s0.heap.get? p.1 = some p.2) (hP : Pn ps []) (G : GG Xg σw fp tn gp ps 0 H s) :
      Seg (model Xg.prog Xg.w) A (GRx Xg σw gp Pn Qe) (GYx (GG Xg σw fp tn gp) Pn Yv) n s0 (.compStart (gexp elt tg iter ifs scope pos) 0 (.ref it) .none Xg.env)
        ((model Xg.prog Xg.w).den (.compStart (gexp elt tg iter ifs scope pos) 0 (.ref it) .none Xg.env)) [] s := by
  have go := segG (Pn := Pn) (gp := gp) hA T pg pt pe hx calm ex pn hco hw turn m n 0 [] ps s0 s H hn w hs0 hP G
  show Seg _ A _ _ _ s0 _ ((compStart (gexp elt tg iter ifs scope pos) 0 (.ref it) .none Xg.env).onRaise (leaving Xg.env)) [] s
  unfold compStart
  rw [Sem.onRaise_eq_wrap]
  show Seg _ A _ _ _ s0 _ ((ask >>= _).wrap _ _ _ _) [] s
  refine seg_bind_wrap (wpAny_askSetting ?_)
  split
  · exact seg_again rfl go
  · refine seg_bind_wrap (wpAny_rule ?_)
    show Seg _ A _ _ _ s0 _ ((standAt iter.pos >>= _).wrap _ _ _ _) [] s
    exact seg_bind_wrap (wpAny_standAt (seg_bind_wrap (T.self _ 0 s _ _ G.tn (seg_again rfl go))))
/-- ready to go on: the generator of number gi, n more at most -/
def GT (Xg : Cx) (σw : L2.St) (fp : List Addr) (tn : Nat -> Heap -> Prop) (gp : Addr × Obj) (Pn : Pins -> List V -> Prop) (Yv : NX -> List V -> V -> Hp -> Prop) (Qe : NX) (A : Around) (gi n : Nat) (ps : Pins) (ys : List V) (s : Shared) : Prop :=
  n + ys.length = sizeLine + 1 /\ ys.length <= sizeLine /\ Pn ps ys /\ ∃ (i : Nat) (H : Hp) (gs : GenState), GG Xg σw fp tn gp ps i H s /\ s.gens[gi]? = some gs /\
    ∀ ps' s', Pn ps' ys -> GG Xg σw fp tn gp ps' i H s' -> gs.Goes (model Xg.prog Xg.w) A.in1 (GRx Xg σw gp Pn Qe) (GYx (GG Xg σw fp tn gp) Pn Yv) n (.send .none) s'
theorem next_GT {gi n : Nat} {ps : Pins} {ys : List V} {s : Shared} {Q : Option Value -> Shared -> Prop} {E : Value -> Shared -> Prop} (hh : A.handled = none) (room : A.depth < recursionLimit) (isg : ∀ h : Heap, h.get? gp.1 = some gp.2 -> h.IsGen gp.1 gi)
    (st : GT Xg σw fp tn gp Pn Yv Qe A gi n ps ys s)
    (item : ∀ m ps ys y v H i Nx s', n = m + 1 -> ys.length < sizeLine -> RelV y v -> (∀ p ∈ ps, s.heap.get? p.1 = some p.2) -> Pn ps ys -> GG Xg σw fp tn gp ps i H s' -> Yv Nx ys y H ->
      (Nx (ys ++ [y]) H -> ∀ ps' s'', Pn ps' (ys ++ [y]) -> GG Xg σw fp tn gp ps' i H s'' -> s''.gens = s'.gens -> GT Xg σw fp tn gp Pn Yv Qe A gi m ps' (ys ++ [y]) s'') -> Q (some v) s')
    (done : ∀ ps ys H s', (∀ p ∈ ps, s.heap.get? p.1 = some p.2) -> Pn ps ys -> Inv Xg (gp :: ps) σw H s' -> Qe ys H -> Q none s') :
    wpAny (model Xg.prog Xg.w) A (pyNext (.ref gp.1)) Q E s := by
  obtain ⟨hn, hl, hP, i, H, gs, G, hgs, go⟩ := st
  have lt : gi + 1 <= s.gens.size := (Array.getElem?_eq_some_iff.mp hgs).1
  have at0 : s.heap.get? gp.1 = some gp.2 := (G.inv.pin gp (List.mem_append_right _ List.mem_cons_self)).1
  refine GenW.wpAny_gsz lt ?_
  refine wpAny_pyNext_genexpQ (P := GPx Xg σw gp Pn Qe) hh G.inv.nolimit room (isg _ at0) hgs (go ps _ hP (G.setGen gi rfl)) (fun v s1 gs' bare hv => ?_) (fun s1 hp h' k => ?_)
  · intro size
    obtain ⟨ps1, ys1, i1, y, H1, Nx, hn1, sm1, rv, hs1, hP1, G1, yv, kap⟩ := hv
    cases n with
    | zero => omega
    | succ m =>
      simp only [Nat.add_sub_cancel] at hn1
      have sz1 : gi < s1.gens.size := by
        have : gi + 1 <= (s1.setGen gi gs').gens.size := size
        rw [GenW.setGen_size] at this
        exact this
      refine item m ps1 ys1 y v H1 i1 Nx _ rfl sm1 rv hs1 hP1 (G1.setGen gi bare) yv fun nx ps' s'' pn' G'' eg => ?_
      refine ⟨by rw [List.length_append]; simp; omega, by rw [List.length_append]; simp; omega, pn', i1, H1, gs', G'', ?_, fun ps2 s2 p2 G2 => kap ps2 s2 p2 G2 nx⟩
      rw [eg]
      exact setGen_self (gs := s1.gens[gi]) (Array.getElem?_eq_getElem sz1)
  · intro size
    obtain ⟨ps1, ys1, H1, hs1, hP1, I1, q⟩ := hp
    refine done ps1 ys1 H1 _ hs1 hP1 ?_ q
    have I2 := inv_gens I1 (bare_set gi I1.bare (x := .finished) rfl)
    exact inv_heap (t := s1.toks) I2 k
end
end Gn
namespace Gn
open PySem PySem.Spec PyProof.Rows L2 Sa
section
variable {Xg : Cx} {fp : List Addr} {tn : Nat -> Heap -> Prop} {σw : L2.St} {gp : Addr × Obj} {ps : Pins} {i : Nat} {H : Hp} {s : Shared}
/-- the consumer lays an object of its own -/
theorem GG.lay {S : Addr} {obj : Obj} {h' : Heap} {t : Nat} (keep : ∀ i h h', tn i h -> (∀ b ∈ fp, ∀ o, h.get? b = some o -> h'.get? b = some o) -> tn i h') (lo : ∀ b ∈ fp, b < s.heap.objs.size) (G : GG Xg σw fp tn gp ps i H s)
    (k : ∀ b u, s.heap.get? b = some u -> h'.get? b = some u) (hS : h'.get? S = some obj) (new : s.heap.objs.size <= S) (nc : ∀ v, obj.data ≠ .cell v) : GG Xg σw fp tn gp ((S, obj) :: ps) i H { s with heap := h', toks := t } := by
  have I1 : Inv Xg (gp :: ps) σw H { s with heap := h', toks := t } := G.inv.kept k
  refine ⟨I1.pins_of fun p hpp => ?_, keep _ _ _ G.tn fun b _ o e => k b o e, G.nf, fun p hpp => ?_⟩
  · rcases List.mem_cons.mp hpp with zq | hpp
    · rw [zq]; exact I1.pin gp (List.mem_append_right _ List.mem_cons_self)
    · rcases List.mem_cons.mp hpp with zq | hpp
      · rw [zq]
        exact ⟨hS, G.inv.hok.fresh new, Nat.ne_of_gt (Nat.lt_of_lt_of_le G.inv.lt new), G.inv.nofs new, nc⟩
      · exact I1.pin p (List.mem_append_right _ (List.mem_cons_of_mem _ hpp))
  · rcases List.mem_cons.mp hpp with zq | hpp
    · rw [zq]; exact G.ap gp List.mem_cons_self
    · rcases List.mem_cons.mp hpp with zq | hpp
      · rw [zq]; exact fun q => Nat.lt_irrefl _ (Nat.lt_of_lt_of_le (lo S q) new)
      · exact G.ap p (List.mem_cons_of_mem _ hpp)
/-- the consumer writes its object -/
theorem GG.write {S : Addr} {obj ob' : Obj} {h' : Heap} {t : Nat} (keep : ∀ i h h', tn i h -> (∀ b ∈ fp, ∀ o, h.get? b = some o -> h'.get? b = some o) -> tn i h') (G : GG Xg σw fp tn gp ((S, obj) :: ps) i H s) (hpn : Xg.pn = []) (hg : gp.1 ≠ S) (hps : ∀ p ∈ ps, p.1 ≠ S) (old : Xg.s_0.heap.objs.size <= S)
    (k : ∀ b u, b ≠ S -> s.heap.get? b = some u -> h'.get? b = some u) (hS : h'.get? S = some ob') (nc : ∀ v, ob'.data ≠ .cell v) : GG Xg σw fp tn gp ((S, ob') :: ps) i H { s with heap := h', toks := t } := by
  obtain ⟨z1, z2, z3, z4, z5⟩ := G.inv.pin (S, obj) (List.mem_append_right _ (List.mem_cons_of_mem _ List.mem_cons_self))
  have nt : ∀ b u, H b = some u -> b ≠ S := fun b u q hbb => by rw [hbb, z2] at q; cases q
  have I0 : Inv Xg (gp :: ps) σw H s := G.inv.pins_of fun p hpp => G.inv.pin p (List.mem_append_right _ (by
    rcases List.mem_cons.mp hpp with zq | zq
    · rw [zq]; exact List.mem_cons_self
    · exact List.mem_cons_of_mem _ (List.mem_cons_of_mem _ zq)))
  have nS : ∀ b, b ∉ [S] -> b ≠ S := fun b hbb e => hbb (by rw [e]; exact List.mem_singleton.mpr rfl)
  have J : Inv Xg (gp :: ps) σw H { s with heap := h', toks := t } := by
    refine I0.step (g' := s.gens) (t' := t) (d' := s.drawn) (ch := [S]) (fun b hbb => ?_)
      (fun b obj _ _ hc q _ => k b obj (nS b hc) q) (fun b obj _ _ hc q _ => ⟨obj.slots, k b obj (nS b hc) q⟩) (fun _ _ _ _ n => n) (fun b obj hc q => ⟨obj, k b obj (nS b hc) q⟩)
      (fun _ _ q => q) (fun _ _ _ q => q) (fun b ps q => ⟨#[], by rw [q]; simp⟩) (fun m hmm => ?_) (fun b u q => ?_) G.inv.bare
    · rw [List.mem_singleton.mp hbb]
      refine ⟨.inr old, z3, fun x c e y => ?_, fun p hpp => ?_⟩
      · obtain ⟨v, o, ho, hd⟩ := I0.cell x c e
        rw [y, z1] at ho
        cases ho
        exact z5 _ hd
      · rw [hpn, List.nil_append] at hpp
        rcases List.mem_cons.mp hpp with zq | zq
        · rw [zq]; exact hg
        · exact hps p zq
    · obtain ⟨obj, es, ep, ho, r⟩ := hmm
      exact ⟨obj, es, ep, k _ obj (Ne.symm z3) ho, r⟩
    · refine (I0.hok b u q).stay (fun c v hc y => k c v ?_ y) (fun _ y => y) fun _ _ y => y
      rcases hc with y | y
      · rw [y]; exact nt b u q
      · exact nt c _ y
  have SF : S ∉ fp := G.ap (S, obj) (List.mem_cons_of_mem _ List.mem_cons_self)
  refine ⟨J.pins_of fun p hpp => ?_, keep _ _ _ G.tn fun b hbb o e => k b o (fun zq => SF (by rw [<- zq]; exact hbb)) e, G.nf, fun p hpp => ?_⟩
  · rcases List.mem_cons.mp hpp with zq | hpp
    · rw [zq]; exact J.pin gp (List.mem_append_right _ List.mem_cons_self)
    · rcases List.mem_cons.mp hpp with zq | hpp
      · rw [zq]; exact ⟨hS, z2, z3, z4, nc⟩
      · exact J.pin p (List.mem_append_right _ (List.mem_cons_of_mem _ hpp))
  · rcases List.mem_cons.mp hpp with zq | hpp
    · rw [zq]; exact G.ap gp List.mem_cons_self
    · rcases List.mem_cons.mp hpp with zq | hpp
      · rw [zq]; exact SF
      · exact G.ap p (List.mem_cons_of_mem _ (List.mem_cons_of_mem _ hpp))
/-- nothing but new things -/
theorem GG.more {h' : Heap} {t : Nat} (keep : ∀ i h h', tn i h -> (∀ b ∈ fp, ∀ o, h.get? b = some o -> h'.get? b = some o) -> tn i h') (G : GG Xg σw fp tn gp ps i H s) (k : ∀ b u, s.heap.get? b = some u -> h'.get? b = some u) : GG Xg σw fp tn gp ps i H { s with heap := h', toks := t } :=
  ⟨G.inv.kept k, keep _ _ _ G.tn fun b _ o e => k b o e, G.nf, G.ap⟩
theorem GG.at {S : Addr} {obj : Obj} (G : GG Xg σw fp tn gp ((S, obj) :: ps) i H s) : s.heap.get? S = some obj := (G.inv.pin (S, obj) (List.mem_append_right _ (List.mem_cons_of_mem _ List.mem_cons_self))).1
end
/-- a generator just made: what its consumer has of it -/
structure Src (X : Cx) (pins : Pins) (σ : L2.St) (J : It) (g : TG) (tt : TT) (te : TE) (vs : List Nat) (H4 : Hp) (a : Addr) (s5 : Shared) (Xg : Cx) (fp : List Addr) (tn : Nat -> Heap -> Prop) (gob : Obj) (gi : Nat) : Prop where
  prog : Xg.prog = X.prog
  w : Xg.w = X.w
  pn : Xg.pn = []
  G0 : GG Xg (wipe σ vs) fp tn (a, gob) [] 0 H4 s5
  isg : ∀ h : Heap, h.get? a = some gob -> h.IsGen a gi
  keep : ∀ i h h', tn i h -> (∀ b ∈ fp, ∀ o, h.get? b = some o -> h'.get? b = some o) -> tn i h'
  lo : ∀ b ∈ fp, b < Xg.s_0.heap.objs.size
  sz : Xg.s_0.heap.objs.size <= s5.heap.objs.size
  alt : a < s5.heap.objs.size
  back : ∀ ps H s', Inv Xg ((a, gob) :: ps) (wipe σ vs) H s' -> Inv X pins σ H s'
  start : ∀ (Pn : Pins -> List V -> Prop) (Yv : NX -> List V -> V -> Hp -> Prop) (Qe : NX) (W : Nat -> Nat -> List V -> Hp -> Prop), Turns J g tt te vs (wipe σ vs) Yv Qe W -> (∃ m, W 0 m [] H4) -> ∀ ps s', Pn ps [] -> GG Xg (wipe σ vs) fp tn (a, gob) ps 0 H4 s' -> s'.gens = s5.gens ->
    GT Xg (wipe σ vs) fp tn (a, gob) Pn Yv Qe X.A.in4 gi (sizeLine + 1) ps [] s'
/-- what a generator's scope asks -/
structure GSc (scope : Scope) : Prop where
  co : scope.isCoroutine = false
  cell : ∀ y ∈ scope.names, y.2 ≠ .cell
  dot : scope.names.lookup (".0" : Str) = some NameKind.local
section
variable {X : Cx} {pins : Pins} {σ : L2.St} {H : Hp} {s : Shared}
theorem gen_make {c P : Addr} {elt tg iter : Expr} {ifs : List Expr} {gpos : Pos} {scope : Scope} {own : List (Str × Nat)} {wi : TI} {g : TG} {tt : TT} {te : TE} {k : Nat} {Q' : Value -> Shared -> Prop} {R : It -> Hp -> Prop}
    (hr : Room (k + 1) X.A) (hf : Free X.A) (hc : X.calm = true) (hN : X.N.Nodup) (TB : LamX.TabB X.base X.mg c P) (hcode : X.env.code = .ref c) (S : GSc scope) (ok : BlkOk X.N X.env.scope scope own) (hi : PI X tg iter wi)
    (hg : ∀ (s : Shared) (H : Hp) (C : Addr) (cl : List (Str × Addr)) (code : Value) (fp : List Addr) (A' : Around), Room k A' -> Free A' -> PG (gx X s H (genEnv scope cl C code builtinsNs X.env) fp A') tg g)
    (ht : ∀ (s : Shared) (H : Hp) (C : Addr) (cl : List (Str × Addr)) (code : Value) (fp : List Addr) (A' : Around), Room k A' -> Free A' -> PTs (gx X s H (genEnv scope cl C code builtinsNs X.env) fp A') ifs tt)
    (he : ∀ (s : Shared) (H : Hp) (C : Addr) (cl : List (Str × Addr)) (code : Value) (fp : List Addr) (A' : Around), Room k A' -> Free A' -> PE (gx X s H (genEnv scope cl C code builtinsNs X.env) fp A') elt te)
    (hs : ∀ v, genFold iter X.env v = pure v) (I : Inv X pins σ H s)
    (h : wi σ H fun J H1 => Tb H1 P /\ ∀ H2, TbTo P H1 H2 -> R J H2)
    (hQ : ∀ J H4 a s5 Xg fp tn gob gi, R J H4 -> Src X pins σ J g tt te (own.map (·.2)) H4 a s5 Xg fp tn gob gi -> Q' (.ref a) s5) :
    wpAny (model X.prog X.w) X.A (eval (gexp elt tg iter ifs scope gpos) X.env) Q' X.xe s := by
  have capt : ∀ y ∈ scope.names, y.2 = .free -> ∃ c, X.env.cells.lookup y.1 = some c := fun y hy e => by
    rcases ok.free y hy e with k | k
    · exact I.ok.has _ (.inl k)
    · exact I.ok.has _ (.inr k)
  refine wpAny_GeneratorExp_make S.co (closure_ok capt) S.cell S.dot ok.kind hr.depth ?_ hs
  refine thn (hi.run pins s σ H _ I h) fun xv s1 hx => thn hx fun itv s2 h2 => ?_
  obtain ⟨it, fp, tn, J, H2, e, I2, T, st2, f2, ⟨pt0, hP, triples⟩, q⟩ := h2
  subst e
  have atP : s2.heap.get? P = some { cls := .none, data := .fields pt0 } := I2.hok P _ hP
  have codeAt : PySem.W.CodeHd s2.heap c P := TB.code.keeps fun d u e => I2.bk d u e
  refine ⟨I2.nolimit, ?_⟩
  -- what stands behind the code object's making
  have onward : ∀ (code : Value) (h3 : Heap) (tk : Nat) (ps' : Array Value), Heap.ExtBut P s2.heap h3 -> s2.heap.objs.size <= h3.objs.size ->
      h3.get? P = some { cls := .none, data := .fields ps' } -> (∃ more, ps' = pt0 ++ more) -> TriplesOk ps'.toList ->
      wpAny (model X.prog X.w) X.A (builtinsFor X.env.globals X.env.builtins) (fun bi s4 =>
        ∀ h', h'.Ns s4.heap.objs.size (fun y => if y = ".0" then some (.ref it) else none) -> Heap.SameBut s4.heap.objs.size (s4.heap.push { cls := .type "frame", data := .dict #[] }) h' ->
          Q' (.ref h'.objs.size) { s4 with
            gens := s4.gens.push (.fresh (.compStart (gexp elt tg iter ifs scope gpos) 0 (.ref it) .none (genEnv scope (cloFrom X.env.cells scope.names []) s4.heap.objs.size code bi X.env))),
            toks := s4.toks + 1 + 1 + 1,
            heap := h'.push { cls := .type "generator", data := .fields #[.int s4.gens.size 0, .str "<genexpr>" (s4.toks + 1), .str (X.env.qual ++ "<genexpr>") (s4.toks + 1 + 1)] } }) X.xe { s2 with heap := h3, toks := tk } := by
    intro code h3 tk ps' grown sizes atP3 ⟨more, em⟩ triples3
    obtain ⟨bm, obj, g1, g2, g3, g4, g5, g6, g7, g8⟩ := TB.bm
    have I4 : Inv X pins σ (upd H2 P (.tbl (pt0 ++ more))) { s2 with heap := h3, toks := tk } :=
      GxR.inv_tab (g' := s2.gens) (d' := s2.drawn) I2 hP (fun b o hbb e => grown b o hbb e) (by rw [<- em]; exact atP3) I2.bare
    have ne : ∀ b ∈ fp, b ≠ P := fun b hbb zq => by
      have := (f2 b hbb).1
      rw [zq, hP] at this
      cases this
    refine wpAny_builtinsFor (m := X.mg) (by rw [I2.ok.glob]; exact (I2.mod.glob.keeps I2.bk).extBut grown TB.gP) g1 g2 (grown _ _ g4 (I2.bk _ _ g5)) g6 g7 g8 ?_
    intro h' ns same
    have goal := q (upd H2 P (.tbl (pt0 ++ more))) ⟨⟨pt0 ++ more, upd_same, by rw [<- em]; exact triples3⟩, fun d hd => upd_ne hd⟩
    generalize hs4 : ({ s2 with heap := h3, toks := tk } : Shared) = s4 at I4 ns same ⊢
    generalize hH4 : upd H2 P (.tbl (pt0 ++ more)) = H4 at I4 goal
    have g4 : s4.gens = s2.gens := by rw [<- hs4]
    have st4 : tn 0 s4.heap := T.keep _ _ _ st2 fun b hbb o e => by rw [<- hs4]; exact grown b o (ne b hbb) e
    have f4 : ∀ b ∈ fp, FpOk X pins H4 b /\ b < s4.heap.objs.size := fun b hbb => by
      obtain ⟨o, e, _⟩ := T.obj _ _ st4 b hbb
      refine ⟨⟨?_, (f2 b hbb).2⟩, Heap.lt_size e⟩
      rw [<- hH4, upd_ne (ne b hbb)]
      exact (f2 b hbb).1
    generalize hcenv : genEnv scope (cloFrom X.env.cells scope.names []) s4.heap.objs.size code builtinsNs X.env = cenv
    have fr : (ovr X.A.in4.in1 elt tg iter ifs scope gpos it cenv).frames = some (cenv :: X.stack) := ovr_fr (A := X.A.in4.in1) I4.ok.frames
    have I5 := gen_start (g' := s4.gens.push (.fresh (.compStart (gexp elt tg iter ifs scope gpos) 0 (.ref it) .none cenv))) (tk := s4.toks + 1 + 1 + 1) (A' := ovr X.A.in4.in1 elt tg iter ifs scope gpos it cenv) (code := code)
      I4 ok hN S.cell f4 hr.hd (by rw [hcenv]; exact fr) ns same (I4.bare.push rfl)
    rw [hcenv] at I5
    have room : Room k (ovr X.A.in4.in1 elt tg iter ifs scope gpos it cenv) := ⟨hr.hd, by
      have := hr.dp
      show X.A.depth + 1 + 3 * k + 5 < _
      omega, by
      have := hr.un
      show X.A.units + 1 + 1 + 1 + 1 + 1 + 3 + 16 * k + 200 < _
      omega⟩
    have free : Free (ovr X.A.in4.in1 elt tg iter ifs scope gpos it cenv) := ovr_gd (A := X.A.in4.in1) hf
    have pg := hg s4 H4 s4.heap.objs.size (cloFrom X.env.cells scope.names []) code fp _ room free
    have pt := ht s4 H4 s4.heap.objs.size (cloFrom X.env.cells scope.names []) code fp _ room free
    have pe := he s4 H4 s4.heap.objs.size (cloFrom X.env.cells scope.names []) code fp _ room free
    rw [hcenv] at pg pt pe
    have cS : cenv.scope.isCoroutine = false := by rw [<- hcenv]; exact S.co
    have szh : h'.objs.size = s4.heap.objs.size + 1 := by rw [same.1, Heap.size_push]
    generalize hgob : ({ cls := .type "generator", data := .fields #[.int s4.gens.size 0, .str "<genexpr>" (s4.toks + 1), .str (X.env.qual ++ "<genexpr>") (s4.toks + 1 + 1)] } : Obj) = gob
    have hnc : ∀ v, gob.data ≠ .cell v := fun v zq => by rw [<- hgob] at zq; cases zq
    have nfr : gob.isFreed = false := by rw [<- hgob]; rfl
    have I6 : Inv (gx X s4 H4 cenv fp (ovr X.A.in4.in1 elt tg iter ifs scope gpos it cenv)) [(h'.objs.size, gob)] (wipe σ (own.map (·.2))) H4
        { s4 with gens := s4.gens.push (.fresh (.compStart (gexp elt tg iter ifs scope gpos) 0 (.ref it) .none cenv)), toks := s4.toks + 1 + 1 + 1, heap := h'.push gob } := by
      have J := inv_heap (t := s4.toks + 1 + 1 + 1) I5 (h' := h'.push gob) fun b o e => Heap.get?_push_of_some _ e
      refine J.pins_of fun p hpp => ?_
      rw [List.mem_singleton.mp hpp]
      have new : ({ s4 with heap := h', gens := s4.gens.push (.fresh (.compStart (gexp elt tg iter ifs scope gpos) 0 (.ref it) .none cenv)), toks := s4.toks + 1 + 1 + 1 } : Shared).heap.objs.size <= h'.objs.size := Nat.le_refl _
      exact ⟨Heap.get?_push_size _ nfr, I5.hok.fresh new, Nat.ne_of_gt (Nat.lt_of_lt_of_le I5.lt new), I5.nofs new, hnc⟩
    refine hQ J H4 h'.objs.size _ (gx X s4 H4 cenv fp (ovr X.A.in4.in1 elt tg iter ifs scope gpos it cenv)) fp tn gob s4.gens.size goal ⟨rfl, rfl, rfl, ⟨I6, ?_, fun b hbb => (f4 b hbb).1.1, fun p hpp => ?_⟩, fun hh e => ?_, T.keep, fun b hbb => (f4 b hbb).2, ?_, ?_, fun ps H' s' I' => ?_, fun Pn Yv Qe W turns hmm ps s' hPn G eg => ?_⟩
    · exact T.keep _ _ _ st4 fun b _ o e => Heap.get?_push_of_some _ (same.extBut b o (Nat.ne_of_lt (Heap.lt_size e)) (Heap.get?_push_of_some _ e))
    · rw [List.mem_singleton.mp hpp]
      intro zq
      have := (f4 _ zq).2
      have e9 : h'.objs.size < s4.heap.objs.size := this
      omega
    · rw [<- hgob] at e
      exact ⟨_, _, _, e, rfl, rfl, rfl⟩
    · show s4.heap.objs.size <= (h'.push gob).objs.size
      rw [Heap.size_push, szh]
      omega
    · show h'.objs.size < (h'.push gob).objs.size
      rw [Heap.size_push]
      exact Nat.lt_succ_self _
    · exact I4.call' (ch := fp) I'.os I'.base I'.hok I'.bare fun b hbb => ⟨(f4 b hbb).1.2.2.2.1, (f4 b hbb).1.2.1, (f4 b hbb).1.2.2.2.2.1, (f4 b hbb).1.2.2.2.2.2⟩
    · obtain ⟨m, w⟩ := hmm
      refine ⟨by simp, by simp, hPn, 0, H4, .fresh (.compStart (gexp elt tg iter ifs scope gpos) 0 (.ref it) .none cenv), G, by rw [eg]; exact Array.getElem?_push_size .., fun ps2 s2 p2 G2 => ⟨rfl, ?_⟩⟩
      exact segG0 (Xg := gx X s4 H4 cenv fp (ovr X.A.in4.in1 elt tg iter ifs scope gpos it cenv)) (A := X.A.in4.in1) rfl T pg pt pe rfl hc rfl rfl cS ⟨σ, rfl⟩ turns m _ ps2 s2 s2 H4 rfl w (fun p hp => (G2.inv.pin p (List.mem_append_right _ (List.mem_cons_of_mem _ hp))).1) p2 G2
  cases found : codeAmong gpos pt0.toList with
  | none =>
    refine wpAny_genexprCodeX hcode (codeAt.code atP triples) (codeAt.tab atP) found fun c' h' tk grown ge lt isCode _ tab _ => ?_
    obtain ⟨o1, vs, f1, tf, fl, tg, inF, tx, tt, op, _, _, _, _, _, _, _, _, _, htr, _⟩ := isCode
    exact onward _ h' tk _ grown (Nat.le_trans ge (Nat.le_of_lt lt)) tab.2 ⟨_, rfl⟩ htr
  | some cv =>
    refine wpAny_genexprCode_hit hcode (codeAt.code atP triples) found ?_
    exact onward cv s2.heap s2.toks pt0 (Heap.ExtBut.refl _ _) (Nat.le_refl _) atP ⟨#[], by simp⟩ triples
end
end Gn
namespace Gn
open PySem PySem.Spec PyProof.Rows L2 Sa
section
variable {X Xg : Cx} {pins : Pins} {σ : L2.St} {J : It} {g : TG} {tt : TT} {te : TE} {vs : List Nat} {H4 : Hp} {a : Addr} {s5 : Shared} {fp : List Addr} {tn : Nat -> Heap -> Prop} {gob : Obj} {gi : Nat}
/-- a wake in A -/
def Wakes (Xg : Cx) (σw : L2.St) (fp : List Addr) (tn : Nat -> Heap -> Prop) (gp : Addr × Obj) (gi : Nat) (A0 A : Around) : Prop :=
  ∀ (Pn : Pins -> List V -> Prop) (Yv : NX -> List V -> V -> Hp -> Prop) (Qe : NX) (n : Nat) (ps : Pins) (ys : List V) (s : Shared) (Q : Option Value -> Shared -> Prop) (E : Value -> Shared -> Prop), GT Xg σw fp tn gp Pn Yv Qe A0 gi n ps ys s ->
    (∀ m ps ys y v H i Nx s', n = m + 1 -> ys.length < sizeLine -> RelV y v -> (∀ p ∈ ps, s.heap.get? p.1 = some p.2) -> Pn ps ys -> GG Xg σw fp tn gp ps i H s' -> Yv Nx ys y H ->
      (Nx (ys ++ [y]) H -> ∀ ps' s'', Pn ps' (ys ++ [y]) -> GG Xg σw fp tn gp ps' i H s'' -> s''.gens = s'.gens -> GT Xg σw fp tn gp Pn Yv Qe A0 gi m ps' (ys ++ [y]) s'') -> Q (some v) s') ->
    (∀ ps ys H s', (∀ p ∈ ps, s.heap.get? p.1 = some p.2) -> Pn ps ys -> Inv Xg (gp :: ps) σw H s' -> Qe ys H -> Q none s') -> wpAny (model Xg.prog Xg.w) A (pyNext (.ref gp.1)) Q E s
theorem Wakes.up {σw : L2.St} {gp : Addr × Obj} {A0 A : Around} (w : Wakes Xg σw fp tn gp gi A0 A.in1) : Wakes Xg σw fp tn gp gi A0 A :=
  fun Pn Yv Qe n ps ys s Q E st i d => wpAny_of_in1 (w Pn Yv Qe n ps ys s Q E st i d)
theorem Src.wakes (D : Src X pins σ J g tt te vs H4 a s5 Xg fp tn gob gi) (hh : X.A.handled = none) (room : X.A.depth < recursionLimit) : Wakes Xg (wipe σ vs) fp tn (a, gob) gi X.A.in4 X.A.in4 :=
  fun Pn Yv Qe n ps ys s Q E st i d => next_GT (A := X.A.in4) hh room D.isg st i d
def yAll (b0 : Bool) (Qs : Hp -> Prop) : NX -> List V -> V -> Hp -> Prop := fun Nx ys y H => ∃ b, y = .bl b /\ if b = b0 then Nx (ys ++ [y]) H else Qs H
theorem all_loop {σw : L2.St} {gp : Addr × Obj} {A0 A : Around} {R : Result -> Shared -> Prop} {Qs : Hp -> Prop} {Qe : NX} (W : Wakes Xg σw fp tn gp gi A0 A.in1)
    (yes : ∀ ys H s', Inv Xg [gp] σw H s' -> Qe ys H -> R (.ok (.ret (.bool true))) s') (no : ∀ H s', Inv Xg [gp] σw H s' -> Qs H -> R (.ok (.ret (.bool false))) s') :
    ∀ (n : Nat) (ps : Pins) (ys : List V) (s : Shared), GT Xg σw fp tn gp (fun ps _ => ps = []) (yAll true Qs) Qe A0 gi n ps ys s -> codeAny (model Xg.prog Xg.w) A (.builtin "all.loop" ⟨[.ref gp.1], []⟩) R s := by
  intro n
  induction n with
  | zero =>
    intro ps ys s st
    have := st.1; have := st.2.1
    omega
  | succ n ih =>
    intro ps ys s st
    refine codeAny_builtin F.entry_all_loop ?_; rw [Around.under_plainId F.plain_all_loop _]
    show wpAny _ A.in1 (pyNext (.ref gp.1) >>= _) _ _ s
    refine wpAny_bind (W _ _ _ _ _ _ _ _ _ st (fun m ps ys y v H i Nx s' em sm rv hse hp G yv kap => ?_) fun ps ys H s' hse hp I q => ?_)
    · cases em; subst hp
      obtain ⟨b, rfl, yv⟩ := yv
      cases (show v = Value.bool b from rv)
      refine wpAny_bind (wpAny_holding (wpAny_truthy_bool ?_)); refine wpAny_bind (wpAny_letGo ?_)
      cases b with
      | true =>
        rw [if_pos rfl] at yv ⊢
        exact wpAny_pure ⟨plainId_quiet F.plain_all_loop _, ih [] (ys ++ [.bl true]) s' (kap yv [] s' rfl G rfl)⟩
      | false =>
        rw [if_neg (by decide)] at yv ⊢
        exact wpAny_bind (wpAny_rule (wpAny_pure (no H s' G.inv yv)))
    · subst hp
      exact wpAny_bind (wpAny_rule (wpAny_pure (yes ys H s' I q)))
theorem any_loop {σw : L2.St} {gp : Addr × Obj} {A0 A : Around} {R : Result -> Shared -> Prop} {Qs : Hp -> Prop} {Qe : NX} (W : Wakes Xg σw fp tn gp gi A0 A.in1)
    (no : ∀ ys H s', Inv Xg [gp] σw H s' -> Qe ys H -> R (.ok (.ret (.bool false))) s') (yes : ∀ H s', Inv Xg [gp] σw H s' -> Qs H -> R (.ok (.ret (.bool true))) s') :
    ∀ (n : Nat) (ps : Pins) (ys : List V) (s : Shared), GT Xg σw fp tn gp (fun ps _ => ps = []) (yAll false Qs) Qe A0 gi n ps ys s -> codeAny (model Xg.prog Xg.w) A (.builtin "any.loop" ⟨[.ref gp.1], []⟩) R s := by
  intro n
  induction n with
  | zero =>
    intro ps ys s st
    have := st.1; have := st.2.1
    omega
  | succ n ih =>
    intro ps ys s st
    refine codeAny_builtin F.entry_any_loop ?_; rw [Around.under_plainId F.plain_any_loop _]
    show wpAny _ A.in1 (pyNext (.ref gp.1) >>= _) _ _ s
    refine wpAny_bind (W _ _ _ _ _ _ _ _ _ st (fun m ps ys y v H i Nx s' em sm rv hse hp G yv kap => ?_) fun ps ys H s' hse hp I q => ?_)
    · cases em; subst hp
      obtain ⟨b, rfl, yv⟩ := yv
      cases (show v = Value.bool b from rv)
      refine wpAny_bind (wpAny_holding (wpAny_truthy_bool ?_)); refine wpAny_bind (wpAny_letGo ?_)
      cases b with
      | false =>
        rw [if_pos rfl] at yv; rw [if_neg (by decide)]
        exact wpAny_pure ⟨plainId_quiet F.plain_any_loop _, ih [] (ys ++ [.bl false]) s' (kap yv [] s' rfl G rfl)⟩
      | true =>
        rw [if_neg (by decide)] at yv; rw [if_pos rfl]
        exact wpAny_bind (wpAny_rule (wpAny_pure (yes H s' G.inv yv)))
    · subst hp
      exact wpAny_bind (wpAny_rule (wpAny_pure (no ys H s' I q)))
end
end Gn
namespace Gn
open PySem PySem.Spec PyProof.Rows L2 Sa
end Gn
namespace Gn
open PySem PySem.Spec PyProof.Rows L2 Sa
/-- what the consumer wants of the generator: U by the iterator, the slots, the heap -/
def tGx (P : Addr) (wi : TI) (U : It -> L2.St -> Hp -> VK -> Prop) : TE := fun σ H Q => wi σ H fun J H1 => Tb H1 P /\ ∀ H2, TbTo P H1 H2 -> U J σ H2 Q
def uAll (b0 : Bool) (g : TG) (tt : TT) (te : TE) (vs : List Nat) : It -> L2.St -> Hp -> VK -> Prop := fun J σ H Q => ∃ W, Turns J g tt te vs (wipe σ vs) (yAll b0 (Q (.bl (!b0)))) (fun _ H => Q (.bl b0) H) W /\ ∃ m, W 0 m [] H
section
variable {X : Cx} {c P : Addr} {elt tg iter : Expr} {ifs : List Expr} {gpos p pos : Pos} {scope : Scope} {own : List (Str × Nat)} {wi : TI} {g : TG} {tt : TT} {te : TE} {k : Nat}
/-- the frame's parts, whatever frame -/
abbrev InG (X : Cx) (scope : Scope) (k : Nat) (J : Cx -> Prop) : Prop :=
  ∀ (s : Shared) (H : Hp) (C : Addr) (cl : List (Str × Addr)) (code : Value) (fp : List Addr) (A' : Around), Room k A' -> Free A' -> J (gx X s H (genEnv scope cl C code builtinsNs X.env) fp A')
theorem pe_allX {nm : Str} {b0 : Bool} (hb : nm = "all" /\ b0 = true ∨ nm = "any" /\ b0 = false) (hr : Room (k + 1) X.A) (hf : Free X.A) (hc : X.calm = true) (hN : X.N.Nodup) (hgl : Gl X nm) (hm : X.mg nm = none) (TB : LamX.TabB X.base X.mg c P) (hcode : X.env.code = .ref c) (S : GSc scope) (ok : BlkOk X.N X.env.scope scope own) (hi : PI X tg iter wi)
    (hg : InG X scope k fun Y => PG Y tg g) (ht : InG X scope k fun Y => PTs Y ifs tt) (he : InG X scope k fun Y => PE Y elt te) (hs : ∀ v, genFold iter X.env v = pure v)
    (hz : starEach [gexp elt tg iter ifs scope gpos] X.env = (false, eval (gexp elt tg iter ifs scope gpos) X.env) :: starEach [] X.env := by rfl) :
    PE X (.Call (.Name nm p) [gexp elt tg iter ifs scope gpos] [] pos) (tGx P wi (uAll b0 g tt te (own.map (·.2)))) := by
  refine ⟨fun pins s σ H Q I h => ?_⟩
  rcases hb with ⟨rfl, rfl⟩ | ⟨rfl, rfl⟩
  · refine wpAny_Call_Name_kw (ld_blt (u := .builtin "all") I hgl hm (by decide +kernel) ?_)
    refine PyProof.Rows.callWith_builtin1 ?_ hz (by rfl); rw [hz]
    show wpAny _ _ (spliced ((false, eval (gexp elt tg iter ifs scope gpos) X.env) :: backTo pos (starEach [] X.env))) _ _ s
    refine Calls.spliced_cons (gen_make (R := fun J H2 => uAll true g tt te (own.map fun q : Str × Nat => q.2) J σ H2 Q) hr hf hc hN TB hcode S ok hi hg ht he hs I h fun J H4 a s5 Xg fp tn gob gi ⟨W, turns, hm⟩ D => Calls.spliced_nil ?_)
    have isG : s5.heap.IsGen a gi := D.isg _ (D.G0.inv.pin (a, gob) (List.mem_append_right _ List.mem_cons_self)).1
    refine call_function_tree F.kind_all F.plain_all F.entry_all (F.args_all1 _) ?_
    unfold Builtin.«all»
    refine wpAny_bind (m := oneArg "all" _) (wpAny_pure (wpAny_bind (wpAny_pyIter_gen isG (wpAny_pure ⟨plainId_quiet F.plain_all_loop _, ?_⟩))))
    have go := all_loop (A := X.A) (R := fun r s' => match r with | .ok (.ret u) => EP X pins σ Q u s' | _ => False) (Qs := Q (.bl false)) (Qe := fun _ H => Q (.bl true) H) ((((D.wakes hr.hd hr.depth).up).up).up)
      (fun ys H s' I' q => ⟨.bl true, H, D.back [] H s' I', rfl, q⟩) (fun H s' I' q => ⟨.bl false, H, D.back [] H s' I', rfl, q⟩) _ _ _ _ (D.start _ _ _ W turns hm [] s5 rfl D.G0 rfl)
    rw [D.prog, D.w] at go
    refine codeAny_mono go fun r s' q => ?_
    cases r with
    | error _ => exact q.elim
    | ok fl => cases fl with
      | ret u => exact q
      | next => exact q.elim
      | brk => exact q.elim
      | cont => exact q.elim
  · refine wpAny_Call_Name_kw (ld_blt (u := .builtin "any") I hgl hm (by decide +kernel) ?_)
    refine PyProof.Rows.callWith_builtin1 ?_ hz (by rfl); rw [hz]
    show wpAny _ _ (spliced ((false, eval (gexp elt tg iter ifs scope gpos) X.env) :: backTo pos (starEach [] X.env))) _ _ s
    refine Calls.spliced_cons (gen_make (R := fun J H2 => uAll false g tt te (own.map fun q : Str × Nat => q.2) J σ H2 Q) hr hf hc hN TB hcode S ok hi hg ht he hs I h fun J H4 a s5 Xg fp tn gob gi ⟨W, turns, hm⟩ D => Calls.spliced_nil ?_)
    have isG : s5.heap.IsGen a gi := D.isg _ (D.G0.inv.pin (a, gob) (List.mem_append_right _ List.mem_cons_self)).1
    refine call_function_tree F.kind_any F.plain_any F.entry_any (F.args_any1 _) ?_
    unfold Builtin.«any»
    refine wpAny_bind (m := oneArg "any" _) (wpAny_pure (wpAny_bind (wpAny_pyIter_gen isG (wpAny_pure ⟨plainId_quiet F.plain_any_loop _, ?_⟩))))
    have go := any_loop (A := X.A) (R := fun r s' => match r with | .ok (.ret u) => EP X pins σ Q u s' | _ => False) (Qs := Q (.bl true)) (Qe := fun _ H => Q (.bl false) H) ((((D.wakes hr.hd hr.depth).up).up).up)
      (fun ys H s' I' q => ⟨.bl false, H, D.back [] H s' I', rfl, q⟩) (fun H s' I' q => ⟨.bl true, H, D.back [] H s' I', rfl, q⟩) _ _ _ _ (D.start _ _ _ W turns hm [] s5 rfl D.G0 rfl)
    rw [D.prog, D.w] at go
    refine codeAny_mono go fun r s' q => ?_
    cases r with
    | error _ => exact q.elim
    | ok fl => cases fl with
      | ret u => exact q
      | next => exact q.elim
      | brk => exact q.elim
      | cont => exact q.elim
end
end Gn
namespace Gn
open PySem PySem.Spec PyProof.Rows L2 Sa
/-- what max's list holds behind ys: nothing, or the greatest of them, twice -/
def Best (ys : List V) (arr : Array Value) : Prop := (ys = [] /\ arr = #[]) ∨ ∃ (is : List Int) (m : Int) (t : Tok), ys = is.map V.int /\ arr = #[.int m t, .int m t] /\ m ∈ is /\ ∀ i ∈ is, i <= m
def pMax (S : Addr) : Pins -> List V -> Prop := fun ps ys => ∃ arr c, ps = [(S, lstObj arr c)] /\ Best ys arr
def yMax : NX -> List V -> V -> Hp -> Prop := fun Nx ys y H => (∃ i, y = .int i) /\ Nx (ys ++ [y]) H
theorem Best.first (i : Int) (t : Tok) : Best [.int i] #[.int i t, .int i t] := .inr ⟨[i], i, t, rfl, rfl, List.mem_singleton.mpr rfl, fun j hj => by rw [List.mem_singleton.mp hj]; exact Int.le_refl _⟩
theorem Best.greater {is : List Int} {m i : Int} (t : Tok) (top : ∀ j ∈ is, j <= m) (gt : m < i) : Best (is.map V.int ++ [.int i]) #[.int i t, .int i t] :=
  .inr ⟨is ++ [i], i, t, by simp, rfl, by simp, fun j hj => by
    rcases List.mem_append.mp hj with h | h
    · have := top j h; omega
    · rw [List.mem_singleton.mp h]; exact Int.le_refl _⟩
theorem Best.kept {is : List Int} {m i : Int} {t : Tok} (mem : m ∈ is) (top : ∀ j ∈ is, j <= m) (le : i <= m) : Best (is.map V.int ++ [.int i]) #[.int m t, .int m t] :=
  .inr ⟨is ++ [i], m, t, by simp, rfl, List.mem_append_left _ mem, fun j hj => by
    rcases List.mem_append.mp hj with h | h
    · exact top j h
    · rw [List.mem_singleton.mp h]; exact le⟩
section
variable {Xg : Cx} {fp : List Addr} {tn : Nat -> Heap -> Prop} {gi : Nat}
theorem max_loop {σw : L2.St} {gp : Addr × Obj} {A0 A : Around} {R : Result -> Shared -> Prop} {Qe : NX} {S : Addr} (W : Wakes Xg σw fp tn gp gi A0 A.in1) (keep : ∀ i h h', tn i h -> (∀ b ∈ fp, ∀ o, h.get? b = some o -> h'.get? b = some o) -> tn i h')
    (hpn : Xg.pn = []) (hg : gp.1 ≠ S) (old : Xg.s_0.heap.objs.size <= S) (some' : ∀ H, ¬ Qe [] H)
    (fin : ∀ (is : List Int) (m : Int) (t : Tok) (c : Nat) (ys : List V) (H : Hp) (s' : Shared), Inv Xg (gp :: [(S, lstObj #[] c)]) σw H s' -> ys = is.map V.int -> m ∈ is -> (∀ j ∈ is, j <= m) -> Qe ys H -> R (.ok (.ret (.int m t))) s') :
    ∀ (n : Nat) (ps : Pins) (ys : List V) (s : Shared), GT Xg σw fp tn gp (pMax S) yMax Qe A0 gi n ps ys s -> codeAny (model Xg.prog Xg.w) A (.builtin "max.loop" ⟨[.ref gp.1, .none, .ref S], []⟩) R s := by
  intro n
  induction n with
  | zero =>
    intro ps ys s st
    have := st.1
    have := st.2.1
    omega
  | succ n ih =>
    intro ps ys s st
    obtain ⟨arr0, c0, e0, best0⟩ := st.2.2.1
    have at0 : s.heap.get? S = some (lstObj arr0 c0) := by
      obtain ⟨_, _, _, i, H, gs, G, _⟩ := st
      rw [e0] at G
      exact G.at
    refine codeAny_builtin F.entry_max_loop ?_
    rw [Around.under_plainId F.plain_max_loop _]
    show wpAny _ A.in1 (seqItems? (.ref S) >>= _) _ _ s
    refine wpAny_bind (wpAny_seqItems at0 rfl ?_)
    refine wpAny_bind (wpAny_tryCatch (W _ _ _ _ _ _ _ _ _ st (fun m ps ys y v H i Nx s' em sm rv hse hp G yv kap => ?_) fun ps ys H s' hse hp I q => ?_))
    · cases em
      obtain ⟨arr, c, rfl, best⟩ := hp
      obtain ⟨⟨k, rfl⟩, nx⟩ := yv
      obtain ⟨t, rfl⟩ := rv
      cases Option.some.inj ((hse _ List.mem_cons_self).symm.trans at0)
      have few : arr0.size <= sizeLine := by
        rcases best with ⟨_, rfl⟩ | ⟨_, _, _, _, rfl, _⟩
        · exact Nat.zero_le _
        · exact (by decide : 2 <= sizeLine)
      -- on, the list holding what it should
      have again' : ∀ (s2 : Shared) (arr2 : Array Value) (c2 : Nat), Best (ys ++ [.int k]) arr2 -> GG Xg σw fp tn gp [(S, lstObj arr2 c2)] i H s2 -> s2.gens = s'.gens ->
          codeAny (model Xg.prog Xg.w) A (.builtin "max.loop" ⟨[.ref gp.1, .none, .ref S], []⟩) R s2 := fun s2 arr2 c2 best2 G2 eg => ih _ (ys ++ [.int k]) s2 (kap nx _ s2 ⟨arr2, c2, rfl, best2⟩ G2 eg)
      have put : ∀ (f : Array Value -> Array Value), f = (fun _ => #[Value.int k t, Value.int k t]) -> Best (ys ++ [.int k]) #[.int k t, .int k t] -> ∀ Q : Unit -> Shared -> Prop, (∀ s2, codeAny (model Xg.prog Xg.w) A (.builtin "max.loop" ⟨[.ref gp.1, .none, .ref S], []⟩) R s2 -> Q () s2) ->
          wpAny (model Xg.prog Xg.w) A.in1 (updateSeq S f) Q (fun e s' => R (.error e) s') s' := by
        rintro _ rfl best2 Q hQ
        refine wpAny_updateSeq G.at rfl (hQ _ ?_) few
        exact again' _ _ _ best2 (GG.write (t := s'.toks) keep G hpn hg (fun p no => (nomatch no)) old (fun b u hb e => (Heap.get?_update_other _ _ (Ne.symm hb)).trans e) (Heap.get?_update_self (Obj.mapSeq fun _ => #[Value.int k t, Value.int k t]) G.at rfl) (fun v z => by cases z)) rfl
      rcases best with ⟨rfl, rfl⟩ | ⟨is, m, u, rfl, rfl, mem, top⟩
      · exact wpAny_bind (wpAny_pure (wpAny_bind (put _ rfl (.first k t) _ fun s2 go => wpAny_pure ⟨plainId_quiet F.plain_max_loop _, go⟩)))
      · refine wpAny_bind (wpAny_pure (wpAny_bind (wpAny_tryCatch (wpAny_holding (wpAny_bind ?_)))))
        refine CmpOf.ints_gt (fun n : Nat => if n = 0 then k else m) (P := fun n v => (n = 0 /\ v = .int k t) ∨ (n = 1 /\ v = .int m u)) (fun n v hv => ?_) 0 1 _ _ _ _ _ (.inl ⟨rfl, rfl⟩) (.inr ⟨rfl, rfl⟩) ?_
        · rcases hv with ⟨rfl, rfl⟩ | ⟨rfl, rfl⟩
          · exact ⟨t, rfl⟩
          · exact ⟨u, rfl⟩
        refine wpAny_bind (wpAny_holding (wpAny_truthy_bool (wpAny_bind (wpAny_letGo (wpAny_pure ?_)))))
        by_cases gt : m < k
        · rw [if_pos (by simpa using gt)]
          exact wpAny_bind (put _ rfl (.greater t top gt) _ fun s2 go => wpAny_bind (wpAny_letGo (wpAny_pure ⟨plainId_quiet F.plain_max_loop _, go⟩)))
        · rw [if_neg (by simpa using gt)]
          exact wpAny_bind (wpAny_letGo (wpAny_pure ⟨plainId_quiet F.plain_max_loop _, again' _ _ _ (.kept mem top (by omega)) G rfl⟩))
    · obtain ⟨arr, c, rfl, best⟩ := hp
      cases Option.some.inj ((hse _ List.mem_cons_self).symm.trans at0)
      rcases best with ⟨rfl, rfl⟩ | ⟨is, m, u, rfl, rfl, mem, top⟩
      · exact absurd q (some' H)
      · have G : GG Xg σw [] (fun _ _ => True) gp [(S, lstObj #[.int m u, .int m u] c0)] 0 H s' := ⟨I, trivial, fun b no => (nomatch no), fun p _ no => (nomatch no)⟩
        have G2 := GG.write (t := s'.toks) (fun _ _ _ _ _ => trivial) G hpn hg (fun p no => (nomatch no)) old (h' := s'.heap.update S (Obj.mapSeq fun _ => #[])) (fun b x hb e => (Heap.get?_update_other _ _ (Ne.symm hb)).trans e) (Heap.get?_update_self (Obj.mapSeq fun _ => #[]) G.at rfl) (fun v z => by cases z)
        exact wpAny_bind (wpAny_updateSeq G.at rfl (wpAny_bind (wpAny_letGo (wpAny_pure (fin is m u _ _ H _ G2.inv rfl mem top q)))))
end
def uMax (g : TG) (tt : TT) (te : TE) (vs : List Nat) : It -> L2.St -> Hp -> VK -> Prop := fun J σ H Q => ∃ W, Turns J g tt te vs (wipe σ vs) yMax (fun ys H => ys ≠ [] /\ ∀ (is : List Int) (m : Int), ys = is.map V.int -> m ∈ is -> (∀ j ∈ is, j <= m) -> Q (.int m) H) W /\ ∃ m, W 0 m [] H
section
variable {X : Cx} {c P : Addr} {elt tg iter : Expr} {ifs : List Expr} {gpos p pos : Pos} {scope : Scope} {own : List (Str × Nat)} {wi : TI} {g : TG} {tt : TT} {te : TE} {k : Nat}
theorem pe_maxX (hr : Room (k + 1) X.A) (hf : Free X.A) (hc : X.calm = true) (hN : X.N.Nodup) (hgl : Gl X "max") (hm : X.mg "max" = none) (TB : LamX.TabB X.base X.mg c P) (hcode : X.env.code = .ref c) (S : GSc scope) (ok : BlkOk X.N X.env.scope scope own) (hi : PI X tg iter wi)
    (hg : InG X scope k fun Y => PG Y tg g) (ht : InG X scope k fun Y => PTs Y ifs tt) (he : InG X scope k fun Y => PE Y elt te) (hs : ∀ v, genFold iter X.env v = pure v)
    (hz : starEach [gexp elt tg iter ifs scope gpos] X.env = (false, eval (gexp elt tg iter ifs scope gpos) X.env) :: starEach [] X.env := by rfl) :
    PE X (.Call (.Name "max" p) [gexp elt tg iter ifs scope gpos] [] pos) (tGx P wi (uMax g tt te (own.map (·.2)))) := by
  refine ⟨fun pins s σ H Q I h => ?_⟩
  refine wpAny_Call_Name_kw (ld_blt (u := .builtin "max") I hgl hm (by decide +kernel) (PyProof.Rows.callWith_builtin1 ?_ hz (by rfl)))
  rw [hz]
  refine Calls.spliced_cons (gen_make (R := fun J H2 => uMax g tt te (own.map fun q : Str × Nat => q.2) J σ H2 Q) hr hf hc hN TB hcode S ok hi hg ht he hs I h fun J H4 a s5 Xg fp tn gob gi ⟨W, turns, hm⟩ D => Calls.spliced_nil ?_)
  have isG : s5.heap.IsGen a gi := D.isg _ (D.G0.inv.pin (a, gob) (List.mem_append_right _ List.mem_cons_self)).1
  refine call_function_tree F.kind_max F.plain_max F.entry_max (F.args_max1 _) ?_
  refine wpAny_bind (wpAny_of_eq (show Builtin.Builtins.bindParams "max" ["key", "default"] 0 { } = pure [none, none] from rfl) (wpAny_bind (wpAny_pure (wpAny_bind (wpAny_pyIter_gen isG (wpAny_bind (wpAny_newList ?_)))))))
  have G1 := D.G0.lay (obj := lstObj #[] 0) (t := s5.toks) D.keep (fun b hb => Nat.lt_of_lt_of_le (D.lo b hb) D.sz) (fun _ _ e => Heap.get?_push_of_some _ e) (Heap.get?_push_size _ rfl) (Nat.le_refl _) (fun v z => by cases z)
  have go := max_loop (A := X.A) (R := fun r s' => match r with | .ok (.ret u) => EP X pins σ Q u s' | _ => False) (S := s5.heap.objs.size) ((((D.wakes hr.hd hr.depth).up).up).up) D.keep D.pn (Nat.ne_of_lt D.alt) D.sz (fun _ q => q.1 rfl)
    (fun is m t c ys H s' I' ey mem top q => ⟨.int m, H, D.back _ H s' I', ⟨t, rfl⟩, q.2 is m ey mem top⟩) (sizeLine + 1) _ _ _ (D.start (pMax s5.heap.objs.size) yMax _ W turns hm _ _ ⟨#[], 0, rfl, .inl ⟨rfl, rfl⟩⟩ G1 rfl)
  rw [D.prog, D.w] at go
  refine wpAny_pure ⟨plainId_quiet F.plain_max_loop _, codeAny_mono go fun r s' q => ?_⟩
  match r, q with
  | .ok (.ret u), q => exact q
end
end Gn
namespace Gn
open PySem PySem.Spec PyProof.Rows L2 Sa
end Gn
namespace Sa
open PySem PySem.Spec PyProof.Rows L2
/-- the def x of the text, as the top has left it -/
structure Stands (K : PySem.W.Frag) (mg : Str -> Option Value) (x : Str) (st : Stmt) (ps : List Str) : Prop where
  ex : ∃ f fd, Fun K x x st f fd /\ mg x = some (.ref f) /\ Binds K fd ps []
/-- the def x keeps the promise sp, by at most k calls within one another -/
structure Df (P : Program) (w : World) (K : PySem.W.Frag) (mg : Str -> Option Value) (base : Heap) (k : Nat) (x : Str) (ps : List Str) (sp : Sp) : Prop where
  ex : ∃ f fd, FnG P w K mg base k f fd ps sp /\ mg x = some (.ref f) /\ PySem.W.keepIn K (.ref f) = true /\ Binds K fd ps []
section
variable {P : Program} {w : World} {K : PySem.W.Frag} {mg : Str -> Option Value} {base : Heap} {k : Nat} {x : Str} {st : Stmt} {N ps : List Str} {sp : Sp}
theorem Df.mk' (S : Stands K mg x st ps) (h : ∀ f fd, Fun K x x st f fd -> FnG P w K mg base k f fd ps sp) : Df P w K mg base k x ps sp := by
  obtain ⟨f, fd, F, m, b⟩ := S.ex
  exact ⟨f, fd, h f fd F, m, F.kp, b⟩
theorem Df.weak {sp' : Sp} (D : Df P w K mg base k x ps sp) (h : ∀ vs H Q E, sp' vs H Q E -> sp vs H Q E) : Df P w K mg base k x ps sp' := by
  obtain ⟨f, fd, G, m, kp, b⟩ := D.ex
  exact ⟨f, fd, ⟨fun vs H Q E q => G.many vs H Q E (h _ _ _ _ q), fun A outer s H args us vs Q E r1 r2 r3 r4 r5 r6 => G.runs A outer s H args us vs Q E r1 r2 r3 r4 r5 (h _ _ _ _ r6)⟩, m, kp, b⟩
/-- the body of a def -/
theorem Df.of (S : Stands K mg x st ps) (sc : FnScope N ps (defScope st)) (many : ∀ vs H Q E, sp vs H Q E -> vs.length = ps.length)
    (walk : ∀ (f : Addr) (cdv : Value) (A : Around) (outer : List Env) (s : Shared) (H : Hp) (vs : List V) (Q : VK) (E : XK), Room k (A.deeper (envOfC x (defScope st) s.heap.objs.size f cdv)) -> Free A ->
      sp vs H Q E -> ∃ t, PSs (cxOf CX0 P w K mg base N x (defScope st) f cdv A outer s H E).nox (defBody st) t /\ t ⟨fun _ H' => Q .non H', Q, fun _ _ => False, fun _ _ => False⟩ (start N vs) H) :
    Df P w K mg base (k + 1) x ps sp :=
  Df.mk' S fun f fd F => okG F sc many fun cdv A outer s H vs Q E _ hr hf h => walk f cdv A outer s H vs Q E hr hf h
/-- the same, the def's code object known -/
theorem Df.ofC {f0 c : Addr} {fd0 : FuncData} (F : Fun K x x st f0 fd0) (m : mg x = some (.ref f0)) (b : Binds K fd0 ps []) (hc : fd0.code = .ref c) (sc : FnScope N ps (defScope st)) (many : ∀ vs H Q E, sp vs H Q E -> vs.length = ps.length)
    (walk : ∀ (A : Around) (outer : List Env) (s : Shared) (H : Hp) (vs : List V) (Q : VK) (E : XK), Room k (A.deeper (envOfC x (defScope st) s.heap.objs.size f0 (.ref c))) -> Free A ->
      sp vs H Q E -> ∃ t, PSs (cxOf CX0 P w K mg base N x (defScope st) f0 (.ref c) A outer s H E).nox (defBody st) t /\ t ⟨fun _ H' => Q .non H', Q, fun _ _ => False, fun _ _ => False⟩ (start N vs) H) :
    Df P w K mg base (k + 1) x ps sp :=
  ⟨f0, fd0, okG F sc many fun cdv A outer s H vs Q E e hr hf h => by
    rw [hc] at e
    subst e
    exact walk A outer s H vs Q E hr hf h, m, F.kp, b⟩
end
section
variable {X : Cx} {k : Nat} {ps : List Str} {sp : Sp} {x : Str} {p pos : Pos} {e : Expr} {es : List Expr} {t : TA}
theorem pe_df (D : Df X.prog X.w X.K X.mg X.base k x ps sp) (hr : Room k X.A) (hf : Free X.A) (hg : Gl X x) (args : PA X (e :: es) t) (nd : (x == ("__debug__" : Str)) = false := by decide)
    (he : starEach (e :: es) X.env = (false, eval e X.env) :: starEach es X.env := by rfl) (np : (backTo pos (starEach es X.env)).any (·.1) = false := by rfl) :
    PE X (.Call (.Name x p) (e :: es) [] pos) (tCall sp [] E0 t) := by
  obtain ⟨f, fd, G, m, kp, b⟩ := D.ex
  exact pe_callG G hr hf hg m kp b args nd he np
end
end Sa
set_option maxHeartbeats 2000000
namespace Sa
open PySem PySem.Spec PyProof.Rows L2
/-- the script is to be read at a, whatever is done -/
def Scr (K : PySem.W.Frag) (H : Hp) (a : Addr) (xs : List V) : Prop := (∃ o, H a = some (.frz o (.lst xs))) ∨ ∀ H' : Hp, SqL K H' a xs
theorem Scr.sq {K : PySem.W.Frag} {H : Hp} {a : Addr} {xs : List V} (h : Scr K H a xs) : SqL K H a xs := by
  rcases h with ⟨o, e⟩ | h
  · exact .inl (.inr ⟨o, e⟩)
  · exact h H
theorem Scr.keep {K : PySem.W.Frag} {H H' : Hp} {a : Addr} {xs : List V} (h : Scr K H a xs) (e : ∀ o, H a = some (.frz o (.lst xs)) -> H' a = some (.frz o (.lst xs))) : Scr K H' a xs := by
  rcases h with ⟨o, q⟩ | h
  · exact .inl ⟨o, e o q⟩
  · exact .inr h
abbrev noTab : Obj := { cls := .none, data := .fields #[] }
abbrev scriptO (vs : List Value) : Obj := { cls := .type "list", data := .seq vs.toArray }
section
variable {P : Program} {w : World} {K : PySem.W.Frag} {mg mb : Str -> Option Value} {k : Nat} {fa a : Addr} {cs : List (Addr × Addr)} {fd : FuncData} {x : Str} {sp : Sp} {s1 : Shared} {vs : List Value} {ns : List Int}
open Classical in
/-- what is tracked as the law begins: the tables, and the script if the top didn't write it -/
noncomputable def begun (K : PySem.W.Frag) (cs : List (Addr × Addr)) (a : Addr) (vs : List Value) (ns : List Int) : Hp := fun b =>
  if b ∈ cs.map (·.2) then some (.tbl #[]) else if b = a /\ K.lookup a = none then some (.frz (scriptO vs) (.lst (ns.map V.int))) else none
theorem law_run (inH : K.In s1.heap) (names : s1.heap.Ns mainGlobals mg) (blt : s1.heap.Ns builtinsNs mb) (isBoot : ∀ x : Str, x ≠ "__name__" -> mb x = bootBuiltins x) (noLim : s1.heap.NoLimit) (noGen : s1.gens = #[])
    (hT : ∀ p ∈ cs, s1.heap.get? p.2 = some noTab) (nT : ∀ p ∈ cs, K.lookup p.2 = none) (code : ∀ p ∈ cs, PySem.W.CodeHd s1.heap p.1 p.2)
    (hbm : ∃ (bm : Addr) (ob : Obj), mg "__builtins__" = some (.ref bm) /\ bm ≠ builtinsNs /\ s1.heap.get? bm = some ob /\ ob.cls = .type "module" /\ ob.dict = some builtinsNs /\ ob.data = .plain)
    (ha : s1.heap.get? a = some (scriptO vs)) (isInts : IntsAre vs ns) (short : ns.length <= sizeLine) (hr : Room k callerA)
    (F : ∀ base : Heap, K.In base -> base.Ns mainGlobals mg -> (∀ p ∈ cs, LamX.TabB base mg p.1 p.2) -> FnG P w K mg base k fa fd [x] sp) (bind : ∀ (s : Shared) (u : Value), BindsTo s fd ⟨[u], []⟩ [(x, u)])
    (hsp : ∀ H : Hp, (∀ p ∈ cs, H p.2 = some (.tbl #[])) -> Scr K H a (ns.map V.int) -> sp [.ref a] H (fun v _ => v = .bl true) fun _ _ _ => False) :
    codeAny (model P w) callerA (.call (.ref fa) ⟨[.ref a], []⟩) (fun r s' => r = .ok (.ret (.bool true)) /\ OldK s1.heap s'.heap /\ s'.os = s1.os /\ AllBare s'.gens) s1 := by
  have rel := vals_ints isInts
  have tabAt : ∀ b ∈ cs.map (·.2), s1.heap.get? b = some noTab := fun b hb => by
    obtain ⟨p, hp, e⟩ := List.mem_map.mp hb
    rw [<- e]
    exact hT p hp
  have scriptNoTab : a ∉ cs.map (·.2) := fun z => by
    have q := tabAt a z
    rw [ha] at q
    have d := congrArg Obj.data (Option.some.inj q)
    cases d
  obtain ⟨H, hH⟩ : ∃ H, H = begun K cs a vs ns := ⟨_, rfl⟩
  have onTab : ∀ b ∈ cs.map (·.2), H b = some (.tbl #[]) := fun b hb => by rw [hH]; exact if_pos hb
  have onScript : K.lookup a = none -> H a = some (.frz (scriptO vs) (.lst (ns.map V.int))) := fun z => by
    rw [hH]
    exact (if_neg scriptNoTab).trans (if_pos ⟨rfl, z⟩)
  have offAll : ∀ b, b ∉ cs.map (·.2) -> ¬ (b = a /\ K.lookup a = none) -> H b = none := fun b h1 h2 => by
    rw [hH]
    exact (if_neg h1).trans (if_neg h2)
  have isOne : ∀ b, H b = none ∨ b ∈ cs.map (·.2) ∨ (b = a /\ K.lookup a = none) := fun b => by
    by_cases h1 : b ∈ cs.map (·.2)
    · exact .inr (.inl h1)
    · by_cases h2 : b = a /\ K.lookup a = none
      · exact .inr (.inr h2)
      · exact .inl (offAll b h1 h2)
  -- an object of another form is not tracked
  have other : ∀ {b : Addr} {o : Obj}, s1.heap.get? b = some o -> (∀ us n, o.data ≠ .seq us n) -> o.data ≠ .fields #[] -> H b = none := fun {b o} e n1 n2 => by
    rcases isOne b with z | z | ⟨z, _⟩
    · exact z
    · rw [tabAt b z] at e
      cases e
      exact (n2 rfl).elim
    · rw [z, ha] at e
      cases e
      exact (n1 _ _ rfl).elim
  have dictFree : ∀ {b : Addr} {o : Obj} {es : Array DictEntry} {ep : Nat}, s1.heap.get? b = some o -> o.data = .dict es ep -> H b = none := fun {b o es ep} e d => by
    refine other e (fun us n z => ?_) fun z => ?_ <;> (rw [d] at z; cases z)
  have nsBase : ∀ {b : Addr} {m : Str -> Option Value}, s1.heap.Ns b m -> (hidT s1.heap H).Ns b m := fun {b m} ⟨o, es, ep, e, d, r⟩ => ⟨o, es, ep, hidT_get e (dictFree e d), d, r⟩
  have keepK : K.In (hidT s1.heap H) := fun b o e => hidT_get (inH b o e) (by
    rcases isOne b with z | z | ⟨z, z2⟩
    · exact z
    · obtain ⟨p, hp, ep⟩ := List.mem_map.mp z
      rw [<- ep, nT p hp] at e
      cases e
    · rw [z, z2] at e
      cases e)
  have modOk : L2.Mod K mg (hidT s1.heap H) := ⟨keepK, nsBase names, ⟨mb, nsBase blt, isBoot⟩, let ⟨mc, h1, h2⟩ := noLim; ⟨mc, nsBase h1, h2⟩⟩
  have tabs : ∀ p ∈ cs, LamX.TabB (hidT s1.heap H) mg p.1 p.2 := fun p hp => by
    have hTp := hT p hp
    refine ⟨?_, ?_, fun z => ?_⟩
    · obtain ⟨o, us, file, tf, flags, tg, inF, text, tt, e1, r1, r2, r3, r4, r5, r6, r7, r8, hne⟩ := code p hp
      refine ⟨o, us, file, tf, flags, tg, inF, text, tt, hidT_get e1 (other e1 (fun us' n z => ?_) fun z => ?_), r1, r2, r3, r4, r5, r6, r7, r8, hne⟩
      · rw [r2] at z; cases z
      · rw [r2] at z
        cases z
        simp at r3
    · obtain ⟨bm, ob, b1, b2, b3, b4, b5, b6⟩ := hbm
      refine ⟨bm, ob, b1, b2, fun q => ?_, fun q => ?_, hidT_get b3 (other b3 (fun us n z => ?_) fun z => ?_), b4, b5, b6⟩
      · obtain ⟨o, es, ep, e, d, _⟩ := names
        rw [q, e] at b3
        cases b3
        rw [d] at b6
        cases b6
      · rw [q, hTp] at b3
        cases b3
        cases b6
      · rw [b6] at z; cases z
      · rw [b6] at z; cases z
    · obtain ⟨o, es, ep, e, d, _⟩ := names
      rw [z, hTp] at e
      cases e
      cases d
  have hok : HOk P w H s1.heap := fun b u e => by
    rcases isOne b with z | z | ⟨z, z2⟩
    · rw [z] at e; cases e
    · rw [onTab b z] at e
      cases e
      exact tabAt b z
    · rw [z, onScript z2] at e
      cases e
      rw [z]
      exact ⟨ha, by rw [List.length_map]; exact short, vs, _, rel, ha⟩
  have seen : Scr K H a (ns.map V.int) := by
    cases q : K.lookup a with
    | none => exact .inl ⟨_, onScript q⟩
    | some o =>
      have e := inH a o q
      rw [ha] at e
      cases e
      exact .inr fun H' => .inr ⟨_, vs.toArray, _, q, rfl, rfl, rfl, by rw [List.size_toArray, isInts.length]; exact short, by simpa using rel⟩
  have env : Env0 P w K mg (hidT s1.heap H) callerA [] s1 H :=
    ⟨rfl, modOk, fun b o e => of_hidT e, Nat.le_of_eq (hidT_size _ _), trivial, fun b hb => absurd (show b ∈ ([] : List Addr) from hb) (by simp), hok, .of_eq noGen⟩
  have ready := hsp H (fun p hp => onTab _ (List.mem_map.mpr ⟨p, hp, rfl⟩)) seen
  refine codeAny_mono ((F _ keepK (nsBase names) tabs).runs callerA [] s1 H ⟨[.ref a], []⟩ [.ref a] [.ref a] _ _ hr rfl env (bind s1 (.ref a)) (.cons rfl .nil) ready) fun r s' out => ?_
  cases r with
  | error e => exact out.elim
  | ok fl =>
    cases fl with
    | next => exact out.elim
    | brk => exact out.elim
    | cont => exact out.elim
    | ret u =>
      obtain ⟨v, H', os, bare, un, hok', rv, q⟩ := out
      cases (show v = .bl true from q)
      cases (show u = Value.bool true from rv)
      have same : ∀ b o, b ∉ cs.map (·.2) -> s1.heap.get? b = some o -> s'.heap.get? b = some o := fun b o nb e => by
        rcases isOne b with z | z | ⟨z, z2⟩
        · exact un.keep b o e z (fun y => absurd (show b ∈ ([] : List Addr) from y) (by simp)) (by simp)
        · exact absurd z nb
        · rw [z] at e ⊢
          have q2 := un.frzs a _ _ (onScript z2)
          obtain ⟨e2, _⟩ := hok' a _ q2
          rw [ha] at e
          cases e
          exact e2
      have grown : ∀ p ∈ cs, ∃ more : Array Value, s'.heap.get? p.2 = some { cls := .none, data := .fields more } := fun p hp => by
        obtain ⟨more, z⟩ := un.tbls p.2 #[] (onTab _ (List.mem_map.mpr ⟨p, hp, rfl⟩))
        exact ⟨_, hok' p.2 _ z⟩
      refine ⟨rfl, ⟨fun b o e => ?_, fun b o e => ?_⟩, os, bare⟩
      · by_cases hb : b ∈ cs.map (·.2)
        · obtain ⟨p, hp, rfl⟩ := List.mem_map.mp hb
          obtain ⟨more, hm⟩ := grown p hp
          rw [hT p hp] at e
          cases e
          exact .inr (.inl ⟨((code p hp).tab (hT p hp)).isCodeTable, rfl, #[], more, rfl, by rw [Array.empty_append]; exact hm⟩)
        · exact .inl (same b o hb e)
      · by_cases hb : b ∈ cs.map (·.2)
        · obtain ⟨p, hp, rfl⟩ := List.mem_map.mp hb
          obtain ⟨more, hm⟩ := grown p hp
          exact ⟨_, hm⟩
        · exact ⟨o, same b o hb e⟩
end
/-- the tables of the top's defs -/
def TabsOf (q : Program) (mg : Str -> Option Value) (h : Heap) : Prop := ∀ e ∈ recsOf q, ∃ a o fd c T, mg e.name = some (.ref a) /\ h.get? a = some o /\ o.data = .func fd /\ fd.code = .ref c /\ h.IsCode c T #[] /\ h.TableAt c T #[]
/-- what is to be known of the law at the head's heap -/
def LawSa (l : PySem.W.OpenLaw) (w : World) (K : PySem.W.Frag) (k n : Nat) (x : Str) (mg : Str -> Option Value) (fa : Addr) (h : Heap) : Prop :=
  ∃ (fd : FuncData) (cs : List (Addr × Addr)) (sp : Sp), (∀ p ∈ cs, h.get? p.2 = some noTab) /\ (∀ p ∈ cs, K.lookup p.2 = none) /\ (∀ p ∈ cs, PySem.W.CodeHd h p.1 p.2) /\ (∀ (s : Shared) (u : Value), BindsTo s fd ⟨[u], []⟩ [(x, u)]) /\
    (∀ (H : Hp) (a : Addr) (ns : List Int), ns.length <= n -> (∀ z ∈ ns, Builtin.Int.intBits z <= 1048576) -> (∀ p ∈ cs, H p.2 = some (.tbl #[])) -> Scr K H a (ns.map V.int) -> sp [.ref a] H (fun v _ => v = .bl true) fun _ _ _ => False) /\
    ∀ base : Heap, K.In base -> base.Ns mainGlobals mg -> (∀ p ∈ cs, LamX.TabB base mg p.1 p.2) -> FnG l.prog w K mg base k fa fd [x] sp
theorem walk_sa {l : PySem.W.OpenLaw} {n k : Nat} {q : Program} {loose : List Str} {XP : (Str -> Option Value) -> Heap -> Prop} {YP : World -> Heap -> Prop} {d : DefRec} {K : Params -> PySem.W.Frag} {x : Str}
    (hn : l.most = some n) (hn2 : n <= sizeLine) (hdf : d.params.defaults = []) (hr : Room k callerA) (hY : ∀ (w : World) (h : Heap), YP w h -> (K w.params).In h)
    (F : ∀ (w : World) (mg : Str -> Option Value) (fa : Addr) (h : Heap), YP w h -> (K w.params).In h -> h.Ns mainGlobals mg -> mg d.name = some (.ref fa) -> TabsOf q mg h -> LawSa l w (K w.params) k n x mg fa h) :
    PySem.W.WalkO q loose XP YP l.row.toRowW d [] (fun f vs => PySem.call f vs) := by
  refine Att.attach_callB hn hdf fun w s0 s1 mg mb fa o pm cd doc a vs ns G Y ho hd hcd hmg hobj hints hlen hbits hg => ?_
  have inH := hY w _ Y
  obtain ⟨fd, cs, sp, hT, nT, code, bind, hsp, hF⟩ := F w mg fa _ Y inH G.T.g hmg G.T.tab
  exact law_run inH G.T.g G.T.b G.T.builtins G.T.nolimit hg hT nT code G.T.bmain hobj hints (Nat.le_trans hlen hn2) hr hF bind fun H hH hS => hsp H a ns hlen hbits hH hS
end Sa
set_option maxHeartbeats 1000000
namespace Va
open PySem PySem.Spec PyProof.Rows L2 Sa
/-- a value: data that never changes, a thing of the memory, the script, a tuple that holds such -/
inductive W where
  | d (x : PyData) | obj (i : Nat) | scr | pack (ws : List W) | fn
/-- a thing of the memory: a list, a set of data, a dict of data by tuples, a dict of data by numbers and texts -/
inductive MO where
  | lst (ws : List W) | kset (ds : List PyData) | dic (es : List (PyData × PyData)) (stamp : Nat) | pot (es : List (Key × PyData))
abbrev Mem := List MO
abbrev Ev := List (Option W)
abbrev EvE := Ev -> Mem -> Option (W × Mem)
abbrev EvT := Ev -> Mem -> Option (Bool × Mem)
abbrev EvA := Ev -> Mem -> Option (List W × Mem)
inductive Out where
  | nx (ρ : Ev) (M : Mem) | rt (w : W) (M : Mem) | bk (ρ : Ev) (M : Mem) | ct (ρ : Ev) (M : Mem)
abbrev EvS := Ev -> Mem -> Option Out
abbrev EvG := W -> Ev -> Option Ev
abbrev EvI := Ev -> Mem -> Option ((List W × List (Nat × MO)) × Mem)
abbrev Fn := List W -> Mem -> Option (W × Mem)
/-- what is fixed through the law -/
structure Ck where
  K : PySem.W.Frag
  w : World
  T : List Addr
  sa : Addr
  ns : List Int
  /-- tables of lambdas, and the lambda that is handed about -/
  TL : List (Addr × Str)
  fa : Option Addr
mutual
inductive Rp (K : PySem.W.Frag) (H : Hp) : V -> PyData -> Prop
  | non : Rp K H .non .none
  | bl (b : Bool) : Rp K H (.bl b) (.bool b)
  | int (i : Int) : Rp K H (.int i) (.int i)
  | str (x : Str) : Rp K H (.str x) (.str x)
  | tup {a : Addr} {vs : List V} {ds : List PyData} : SqT K H a vs -> RpAll K H vs ds -> Rp K H (.ref a) (.tuple ds)
inductive RpAll (K : PySem.W.Frag) (H : Hp) : List V -> List PyData -> Prop
  | nil : RpAll K H [] []
  | cons {v : V} {vs : List V} {d : PyData} {ds : List PyData} : Rp K H v d -> RpAll K H vs ds -> RpAll K H (v :: vs) (d :: ds)
end
/-- tuples stay -/
def Keep (K : PySem.W.Frag) (H H' : Hp) : Prop := ∀ a vs, SqT K H a vs -> SqT K H' a vs
theorem Keep.refl {K : PySem.W.Frag} {H : Hp} : Keep K H H := fun _ _ h => h
theorem Keep.trans {K : PySem.W.Frag} {H H1 H2 : Hp} (a : Keep K H H1) (b : Keep K H1 H2) : Keep K H H2 := fun c vs h => b c vs (a c vs h)
mutual
theorem Rp.keep {K : PySem.W.Frag} {H H' : Hp} (k : Keep K H H') : ∀ {v : V} {d : PyData}, Rp K H v d -> Rp K H' v d
  | _, _, .non => .non
  | _, _, .bl b => .bl b
  | _, _, .int i => .int i
  | _, _, .str x => .str x
  | _, _, .tup s r => .tup (k _ _ s) (RpAll.keep k r)
theorem RpAll.keep {K : PySem.W.Frag} {H H' : Hp} (k : Keep K H H') : ∀ {vs : List V} {ds : List PyData}, RpAll K H vs ds -> RpAll K H' vs ds
  | _, _, .nil => .nil
  | _, _, .cons a r => .cons (Rp.keep k a) (RpAll.keep k r)
end
mutual
theorem Rp.dp {K : PySem.W.Frag} {H : Hp} : ∀ {v : V} {d : PyData}, Rp K H v d -> Dp K H v d
  | _, _, .non => .non
  | _, _, .bl b => .bl b
  | _, _, .int i => .int i
  | _, _, .str x => .str x
  | _, _, .tup s r => .tup s (RpAll.dp r)
theorem RpAll.dp {K : PySem.W.Frag} {H : Hp} : ∀ {vs : List V} {ds : List PyData}, RpAll K H vs ds -> DpAll K H vs ds
  | _, _, .nil => .nil
  | _, _, .cons a r => .cons (Rp.dp a) (RpAll.dp r)
end
theorem RpAll.length {K : PySem.W.Frag} {H : Hp} : ∀ {vs : List V} {ds : List PyData}, RpAll K H vs ds -> vs.length = ds.length
  | _, _, .nil => rfl
  | _, _, .cons _ r => congrArg (· + 1) (RpAll.length r)
theorem RpAll.get {K : PySem.W.Frag} {H : Hp} : ∀ {vs : List V} {ds : List PyData}, RpAll K H vs ds -> ∀ {i : Nat} {d : PyData}, ds[i]? = some d -> ∃ v, vs[i]? = some v /\ Rp K H v d
  | _, _, .nil, i, d, e => by simp at e
  | _, _, .cons a r, 0, d, e => by simp at e; subst e; exact ⟨_, rfl, a⟩
  | _, _, .cons a r, i + 1, d, e => by
    obtain ⟨v, h1, h2⟩ := RpAll.get r (i := i) (d := d) (by simpa using e)
    exact ⟨v, by simpa using h1, h2⟩
mutual
inductive Rw (C : Ck) (φ : Nat -> Addr) (n : Nat) (H : Hp) : V -> W -> Prop
  | d {v : V} {x : PyData} : Rp C.K H v x -> Rw C φ n H v (.d x)
  | obj {i : Nat} : i < n -> Rw C φ n H (.ref (φ i)) (.obj i)
  | scr : Rw C φ n H (.ref C.sa) .scr
  | pack {a : Addr} {vs : List V} {ws : List W} : SqT C.K H a vs -> RwAll C φ n H vs ws -> Rw C φ n H (.ref a) (.pack ws)
  | fn {a : Addr} : C.fa = some a -> Rw C φ n H (.ref a) .fn
inductive RwAll (C : Ck) (φ : Nat -> Addr) (n : Nat) (H : Hp) : List V -> List W -> Prop
  | nil : RwAll C φ n H [] []
  | cons {v : V} {vs : List V} {w : W} {ws : List W} : Rw C φ n H v w -> RwAll C φ n H vs ws -> RwAll C φ n H (v :: vs) (w :: ws)
end
mutual
theorem Rw.move {C : Ck} {φ φ' : Nat -> Addr} {n n' : Nat} {H H' : Hp} (k : Keep C.K H H') (e : ∀ i, i < n -> φ' i = φ i) (l : n <= n') : ∀ {v : V} {w : W}, Rw C φ n H v w -> Rw C φ' n' H' v w
  | _, _, .d r => .d (r.keep k)
  | _, _, .obj (i := i) h => by rw [<- e i h]; exact .obj (Nat.lt_of_lt_of_le h l)
  | _, _, .scr => .scr
  | _, _, .pack s r => .pack (k _ _ s) (RwAll.move k e l r)
  | _, _, .fn h => .fn h
theorem RwAll.move {C : Ck} {φ φ' : Nat -> Addr} {n n' : Nat} {H H' : Hp} (k : Keep C.K H H') (e : ∀ i, i < n -> φ' i = φ i) (l : n <= n') : ∀ {vs : List V} {ws : List W}, RwAll C φ n H vs ws -> RwAll C φ' n' H' vs ws
  | _, _, .nil => .nil
  | _, _, .cons a r => .cons (Rw.move k e l a) (RwAll.move k e l r)
end
theorem RwAll.length {C : Ck} {φ : Nat -> Addr} {n : Nat} {H : Hp} : ∀ {vs : List V} {ws : List W}, RwAll C φ n H vs ws -> vs.length = ws.length
  | _, _, .nil => rfl
  | _, _, .cons _ r => congrArg (· + 1) (RwAll.length r)
theorem RwAll.get {C : Ck} {φ : Nat -> Addr} {n : Nat} {H : Hp} : ∀ {vs : List V} {ws : List W}, RwAll C φ n H vs ws -> ∀ {i : Nat} {w : W}, ws[i]? = some w -> ∃ v, vs[i]? = some v /\ Rw C φ n H v w
  | _, _, .nil, i, d, e => by simp at e
  | _, _, .cons a r, 0, d, e => by simp at e; subst e; exact ⟨_, rfl, a⟩
  | _, _, .cons a r, i + 1, d, e => by
    obtain ⟨v, h1, h2⟩ := RwAll.get r (i := i) (w := d) (by simpa using e)
    exact ⟨v, by simpa using h1, h2⟩
theorem RwAll.get' {C : Ck} {φ : Nat -> Addr} {n : Nat} {H : Hp} : ∀ {vs : List V} {ws : List W}, RwAll C φ n H vs ws -> ∀ {i : Nat} {v : V}, vs[i]? = some v -> ∃ w, ws[i]? = some w /\ Rw C φ n H v w
  | _, _, .nil, i, d, e => by simp at e
  | _, _, .cons a r, 0, d, e => by simp at e; subst e; exact ⟨_, rfl, a⟩
  | _, _, .cons a r, i + 1, d, e => by
    obtain ⟨v, h1, h2⟩ := RwAll.get' r (i := i) (v := d) (by simpa using e)
    exact ⟨v, by simpa using h1, h2⟩
theorem RwAll.append {C : Ck} {φ : Nat -> Addr} {n : Nat} {H : Hp} : ∀ {vs vs' : List V} {ws ws' : List W}, RwAll C φ n H vs ws -> RwAll C φ n H vs' ws' -> RwAll C φ n H (vs ++ vs') (ws ++ ws')
  | _, _, _, _, .nil, s => s
  | _, _, _, _, .cons a r, s => .cons a (RwAll.append r s)
theorem RwAll.set {C : Ck} {φ : Nat -> Addr} {n : Nat} {H : Hp} {v : V} {w : W} (h : Rw C φ n H v w) : ∀ {vs : List V} {ws : List W} (i : Nat), RwAll C φ n H vs ws -> RwAll C φ n H (vs.set i v) (ws.set i w)
  | _, _, _, .nil => .nil
  | _, _, 0, .cons _ r => .cons h r
  | _, _, i + 1, .cons a r => .cons a (RwAll.set h i r)
theorem RwAll.take {C : Ck} {φ : Nat -> Addr} {n : Nat} {H : Hp} : ∀ {vs : List V} {ws : List W} (k : Nat), RwAll C φ n H vs ws -> RwAll C φ n H (vs.take k) (ws.take k)
  | _, _, 0, _ => by simp; exact .nil
  | _, _, k + 1, .nil => .nil
  | _, _, k + 1, .cons a r => .cons a (RwAll.take k r)
theorem RwAll.drop {C : Ck} {φ : Nat -> Addr} {n : Nat} {H : Hp} : ∀ {vs : List V} {ws : List W} (k : Nat), RwAll C φ n H vs ws -> RwAll C φ n H (vs.drop k) (ws.drop k)
  | _, _, 0, r => r
  | _, _, k + 1, .nil => .nil
  | _, _, k + 1, .cons a r => RwAll.drop k r
theorem RwAll.reverse {C : Ck} {φ : Nat -> Addr} {n : Nat} {H : Hp} : ∀ {vs : List V} {ws : List W}, RwAll C φ n H vs ws -> RwAll C φ n H vs.reverse ws.reverse
  | _, _, .nil => .nil
  | _, _, .cons a r => by simp only [List.reverse_cons]; exact (RwAll.reverse r).append (.cons a .nil)
theorem RpAll.rw {C : Ck} {φ : Nat -> Addr} {n : Nat} {H : Hp} : ∀ {vs : List V} {ds : List PyData}, RpAll C.K H vs ds -> RwAll C φ n H vs (ds.map W.d)
  | _, _, .nil => .nil
  | _, _, .cons a r => .cons (.d a) (RpAll.rw r)
/-- the data of values, where all are data -/
def datas : List W -> Option (List PyData)
  | [] => some []
  | .d x :: ws => (datas ws).map (x :: ·)
  | _ :: _ => none
theorem datas_map : ∀ (ds : List PyData), datas (ds.map W.d) = some ds
  | [] => rfl
  | d :: ds => by
    show (datas (ds.map W.d)).map (d :: ·) = _
    rw [datas_map ds]; rfl
theorem datas_eq : ∀ {ws : List W} {ds : List PyData}, datas ws = some ds -> ws = ds.map W.d
  | [], ds, e => by cases e; rfl
  | .d x :: ws, ds, e => by
    simp only [datas, Option.map_eq_some_iff] at e
    obtain ⟨ds', h, rfl⟩ := e
    rw [datas_eq h]; rfl
  | .obj i :: ws, ds, e => by cases e
  | .scr :: ws, ds, e => by cases e
  | .pack _ :: ws, ds, e => by cases e
  | .fn :: ws, ds, e => by cases e
theorem RwAll.rp {C : Ck} {φ : Nat -> Addr} {n : Nat} {H : Hp} : ∀ {vs : List V} {ds : List PyData}, RwAll C φ n H vs (ds.map W.d) -> RpAll C.K H vs ds
  | [], [], _ => .nil
  | _ :: _, d :: ds, .cons (.d a) r => .cons a (RwAll.rp r)
/-- a tuple of values -/
def mkTup (ws : List W) : W := match datas ws with
  | some ds => .d (.tuple ds)
  | none => .pack ws
/-- the items of a tuple -/
def tupOf : W -> Option (List W)
  | .d (.tuple ds) => some (ds.map W.d)
  | .pack ws => some ws
  | _ => none
@[simp] theorem tupOf_mk (ds : List PyData) : tupOf (.d (.tuple ds)) = some (ds.map W.d) := rfl
theorem Rw.tup {C : Ck} {φ : Nat -> Addr} {n : Nat} {H : Hp} {a : Addr} {vs : List V} {ws : List W} (s : SqT C.K H a vs) (r : RwAll C φ n H vs ws) : Rw C φ n H (.ref a) (mkTup ws) := by
  unfold mkTup
  split
  · rename_i ds e
    rw [datas_eq e] at r
    exact .d (.tup s r.rp)
  · exact .pack s r
theorem Rw.un {C : Ck} {φ : Nat -> Addr} {n : Nat} {H : Hp} {v : V} {w : W} {ws : List W} (r : Rw C φ n H v w) (e : tupOf w = some ws) : ∃ a vs, v = .ref a /\ SqT C.K H a vs /\ RwAll C φ n H vs ws := by
  cases r with
  | d r =>
    cases r with
    | tup s r => cases e; exact ⟨_, _, rfl, s, r.rw⟩
    | non => cases e
    | bl b => cases e
    | int i => cases e
    | str x => cases e
  | obj h => cases e
  | scr => cases e
  | pack s r => cases e; exact ⟨_, _, rfl, s, r⟩
  | fn h => cases e
/-- the entries of a dict stand for these -/
inductive DicR (K : PySem.W.Frag) (H : Hp) : List KEnt -> List (PyData × PyData) -> Prop
  | nil : DicR K H [] []
  | cons {a : Addr} {v : V} {L : List KEnt} {k d : PyData} {es : List (PyData × PyData)} : Rp K H (.ref a) k -> flat k = true -> (nk k).depth <= 8 -> Rp K H v d -> DicR K H L es -> DicR K H ((a, nk k, v) :: L) ((k, d) :: es)
theorem DicR.keep {K : PySem.W.Frag} {H H' : Hp} (k : Keep K H H') {L : List KEnt} {es : List (PyData × PyData)} (h : DicR K H L es) : DicR K H' L es := by
  induction h with
  | nil => exact .nil
  | cons a f d v _ ih => exact .cons (a.keep k) f d (v.keep k) ih
/-- the same by numbers and texts -/
inductive PotR (K : PySem.W.Frag) (H : Hp) : List (Key × V) -> List (Key × PyData) -> Prop
  | nil : PotR K H [] []
  | cons {k : Key} {v : V} {L : List (Key × V)} {d : PyData} {es : List (Key × PyData)} : Rp K H v d -> PotR K H L es -> PotR K H ((k, v) :: L) ((k, d) :: es)
theorem PotR.keep {K : PySem.W.Frag} {H H' : Hp} (k : Keep K H H') {L : List (Key × V)} {es : List (Key × PyData)} (h : PotR K H L es) : PotR K H' L es := by
  induction h with
  | nil => exact .nil
  | cons a _ ih => exact .cons (a.keep k) ih
/-- the thing of the memory stands at a -/
def RO (C : Ck) (φ : Nat -> Addr) (n : Nat) (H : Hp) (a : Addr) : MO -> Prop
  | .lst ws => ∃ vs, H a = some (.lst vs) /\ RwAll C φ n H vs ws
  | .kset ds => ∃ L : List (Addr × PyData), H a = some (KsO C.w a (L.map keyOf)) /\ L.map (·.2) = ds /\ ∀ p ∈ L, Rp C.K H (.ref p.1) p.2
  | .dic es _ => ∃ L : List KEnt, KdAt C.w H a L /\ DicR C.K H L es
  | .pot es => ∃ L : List (Key × V), H a = some (.dK L) /\ PotR C.K H L es
/-- the table of a lambda: what it tells are code objects of its name, none of them a thing of the memory -/
def LamAt (φ : Nat -> Addr) (n : Nat) (H : Hp) (p : Addr × Str) : Prop := ∃ ps : Array Value, H p.1 = some (.tbl ps) /\ TriplesOk ps.toList /\
  ∀ (pos : Pos) (cv : Value), codeAmong pos ps.toList = some cv -> ∃ c, cv = .ref c /\ H c = some (LamX.CodeO c p.2) /\ ∀ i, i < n -> φ i ≠ c
theorem LamAt.move {φ φ' : Nat -> Addr} {n n' : Nat} {H H' : Hp} {p : Addr × Str} (h : LamAt φ n H p) (tb : ∀ ps, H p.1 = some (.tbl ps) -> H' p.1 = some (.tbl ps))
    (cd : ∀ c, H c = some (LamX.CodeO c p.2) -> (∀ i, i < n -> φ i ≠ c) -> H' c = some (LamX.CodeO c p.2) /\ ∀ i, i < n' -> φ' i ≠ c) : LamAt φ' n' H' p := by
  obtain ⟨ps, h1, h2, h3⟩ := h
  refine ⟨ps, tb _ h1, h2, fun pos cv hc => ?_⟩
  obtain ⟨c, e1, e2, e3⟩ := h3 pos cv hc
  obtain ⟨e4, e5⟩ := cd c e2 e3
  exact ⟨c, e1, e4, e5⟩
structure Sim (C : Ck) (φ : Nat -> Addr) (M : Mem) (H : Hp) : Prop where
  ob : ∀ i mo, M[i]? = some mo -> RO C φ M.length H (φ i) mo
  inj : ∀ i j, i < M.length -> j < M.length -> φ i = φ j -> i = j
  tab : ∀ P ∈ C.T, Tb H P
  scr : Scr C.K H C.sa (C.ns.map V.int)
  lam : ∀ p ∈ C.TL, p.1 ∉ C.T /\ LamAt φ M.length H p
theorem RO.some {C : Ck} {φ : Nat -> Addr} {n : Nat} {H : Hp} {a : Addr} {mo : MO} (h : RO C φ n H a mo) : ∃ o, H a = some o /\ ((∃ vs, o = .lst vs) ∨ (∃ p, o = .ext p) ∨ ∃ L, o = .dK L) := by
  cases mo with
  | lst ws => obtain ⟨vs, h, _⟩ := h; exact ⟨_, h, .inl ⟨_, rfl⟩⟩
  | kset ds => obtain ⟨L, h, _⟩ := h; exact ⟨_, h, .inr (.inl ⟨_, rfl⟩)⟩
  | dic es n => obtain ⟨L, ⟨p, h, _⟩, _⟩ := h; exact ⟨_, h, .inr (.inl ⟨_, rfl⟩)⟩
  | pot es => obtain ⟨L, h, _⟩ := h; exact ⟨_, h, .inr (.inr ⟨_, rfl⟩)⟩
theorem RO.move {C : Ck} {φ φ' : Nat -> Addr} {n n' : Nat} {H H' : Hp} {a : Addr} {mo : MO} (k : Keep C.K H H') (e : ∀ i, i < n -> φ' i = φ i) (l : n <= n') (same : H' a = H a) (h : RO C φ n H a mo) : RO C φ' n' H' a mo := by
  cases mo with
  | lst ws => obtain ⟨vs, h, r⟩ := h; exact ⟨vs, by rw [same]; exact h, r.move k e l⟩
  | kset ds => obtain ⟨L, h, r, q⟩ := h; exact ⟨L, by rw [same]; exact h, r, fun p hp => (q p hp).keep k⟩
  | dic es n => obtain ⟨L, ⟨p, h, q⟩, r⟩ := h; exact ⟨L, ⟨p, by rw [same]; exact h, q⟩, r.keep k⟩
  | pot es => obtain ⟨L, h, r⟩ := h; exact ⟨L, by rw [same]; exact h, r.keep k⟩
/-- dicts stay dicts; where the stamp is the same, nothing happened to one -/
def DicsOn (φ : Nat -> Addr) (M : Mem) (H : Hp) (M' : Mem) (H' : Hp) : Prop := ∀ i es n, M[i]? = some (.dic es n) -> ∃ es' n', M'[i]? = some (.dic es' n') /\ n <= n' /\ (n' = n -> es' = es /\ H' (φ i) = H (φ i))
theorem DicsOn.same {φ : Nat -> Addr} {M M' : Mem} {H H' : Hp} (hM : ∀ i es n, M[i]? = some (.dic es n) -> M'[i]? = some (.dic es n) /\ H' (φ i) = H (φ i)) : DicsOn φ M H M' H' := fun i es n e => ⟨es, n, (hM i es n e).1, Nat.le_refl _, fun _ => ⟨rfl, (hM i es n e).2⟩⟩
/-- from one state on to another -/
structure Step (C : Ck) (φ : Nat -> Addr) (M : Mem) (H : Hp) (φ' : Nat -> Addr) (M' : Mem) (H' : Hp) : Prop where
  ext : ∀ i, i < M.length -> φ' i = φ i
  le : M.length <= M'.length
  keep : Keep C.K H H'
  sim : Sim C φ' M' H'
  dics : DicsOn φ M H M' H'
section
variable {C : Ck} {φ φ' φ2 : Nat -> Addr} {M M' M2 : Mem} {H H' H2 : Hp}
theorem Step.refl (s : Sim C φ M H) : Step C φ M H φ M H := ⟨fun _ _ => rfl, Nat.le_refl _, .refl, s, .same fun _ _ _ e => ⟨e, rfl⟩⟩
theorem Step.trans (a : Step C φ M H φ' M' H') (b : Step C φ' M' H' φ2 M2 H2) : Step C φ M H φ2 M2 H2 :=
  ⟨fun i h => (b.ext i (Nat.lt_of_lt_of_le h a.le)).trans (a.ext i h), Nat.le_trans a.le b.le, a.keep.trans b.keep, b.sim, fun i es n e => by
    obtain ⟨es1, n1, e1, l1, s1⟩ := a.dics i es n e
    obtain ⟨es2, n2, e2, l2, s2⟩ := b.dics i es1 n1 e1
    refine ⟨es2, n2, e2, Nat.le_trans l1 l2, fun z => ?_⟩
    obtain ⟨p1, p2⟩ := s1 (by omega)
    obtain ⟨q1, q2⟩ := s2 (by omega)
    have hi : i < M.length := (List.getElem?_eq_some_iff.mp e).1
    rw [a.ext i hi] at q2
    exact ⟨q1.trans p1, q2.trans p2⟩⟩
theorem Rw.step {v : V} {w : W} (r : Rw C φ M.length H v w) (s : Step C φ M H φ' M' H') : Rw C φ' M'.length H' v w := r.move s.keep s.ext s.le
theorem RwAll.step {vs : List V} {ws : List W} (r : RwAll C φ M.length H vs ws) (s : Step C φ M H φ' M' H') : RwAll C φ' M'.length H' vs ws := r.move s.keep s.ext s.le
/-- a new place beside what is there -/
theorem keep_new {p : Addr} {o : HO} (np : H p = none) : Keep C.K H (upd H p o) := fun a vs h => by
  rcases h with (h | ⟨ob, h⟩) | h
  · exact .inl (.inl (by rw [upd_ne (ne_of_none h np)]; exact h))
  · exact .inl (.inr ⟨ob, by rw [upd_ne (ne_of_none h np)]; exact h⟩)
  · exact .inr h
theorem scr_new {a p : Addr} {o : HO} {xs : List V} (np : H p = none) (h : Scr C.K H a xs) : Scr C.K (upd H p o) a xs := h.keep fun ob e => by
  rw [upd_ne (ne_of_none e np)]; exact e
theorem tab_new {P p : Addr} {o : HO} (np : H p = none) (h : Tb H P) : Tb (upd H p o) P := by
  obtain ⟨ps, e, r⟩ := h
  exact ⟨ps, by rw [upd_ne (ne_of_none e np)]; exact e, r⟩
theorem Sim.at (S : Sim C φ M H) {i : Nat} {mo : MO} (e : M[i]? = some mo) : RO C φ M.length H (φ i) mo := S.ob i mo e
theorem Sim.tracked (S : Sim C φ M H) {i : Nat} (h : i < M.length) : ∃ o, H (φ i) = some o /\ ((∃ vs, o = .lst vs) ∨ (∃ p, o = .ext p) ∨ ∃ L, o = .dK L) := (S.ob i _ (List.getElem?_eq_getElem h)).some
/-- the heap grows by something that isn't of the memory -/
theorem Step.tup (S : Sim C φ M H) {p : Addr} {o : HO} (np : H p = none) : Step C φ M H φ M (upd H p o) := by
  refine ⟨fun _ _ => rfl, Nat.le_refl _, keep_new np, ⟨fun i mo e => ?_, S.inj, fun P hP => tab_new np (S.tab P hP), scr_new np S.scr, fun q hq => ⟨(S.lam q hq).1, (S.lam q hq).2.move (fun ps h => by rw [upd_ne (ne_of_none h np)]; exact h) fun c h n => ⟨by rw [upd_ne (ne_of_none h np)]; exact h, n⟩⟩⟩, .same fun i es n e => ⟨e, upd_ne (let ⟨_, h, _⟩ := (S.ob i _ e).some; ne_of_none h np)⟩⟩
  have r := S.ob i mo e
  obtain ⟨o', h, _⟩ := r.some
  exact r.move (keep_new np) (fun _ _ => rfl) (Nat.le_refl _) (upd_ne (ne_of_none h np))
def phi (φ : Nat -> Addr) (n : Nat) (p : Addr) : Nat -> Addr := fun i => if i = n then p else φ i
theorem phi_at {n : Nat} {p : Addr} : phi φ n p n = p := if_pos rfl
theorem phi_lt {n : Nat} {p : Addr} {i : Nat} (h : i < n) : phi φ n p i = φ i := if_neg (Nat.ne_of_lt h)
theorem lam_new {n : Nat} {p c : Addr} {q : Str} (np : H p = none) (h : H c = some (LamX.CodeO c q)) (k : ∀ i, i < n -> φ i ≠ c) {i : Nat} (hi : i < n + 1) : phi φ n p i ≠ c := by
  by_cases z : i = n
  · subst z
    rw [phi_at]
    exact fun e => by rw [e, h] at np; cases np
  · rw [phi_lt (by omega)]
    exact k i (by omega)
/-- a new thing of the memory -/
theorem Step.new (S : Sim C φ M H) {p : Addr} {o : HO} {mo : MO} (np : H p = none) (hr : ∀ φ', (∀ i, i < M.length -> φ' i = φ i) -> RO C φ' (M.length + 1) (upd H p o) p mo) : Step C φ M H (phi φ M.length p) (M ++ [mo]) (upd H p o) := by
  refine ⟨fun i h => phi_lt h, by simp, keep_new np, ⟨fun i mo' e => ?_, fun i j hi hj e => ?_, fun P hP => tab_new np (S.tab P hP), scr_new np S.scr, fun q hq => ⟨(S.lam q hq).1, (S.lam q hq).2.move (fun ps h => by rw [upd_ne (ne_of_none h np)]; exact h) fun c h n => ⟨by rw [upd_ne (ne_of_none h np)]; exact h, fun i hi => lam_new np h n (by simpa using hi)⟩⟩⟩, .same fun i es n e => ⟨by rw [List.getElem?_append_left (List.getElem?_eq_some_iff.mp e).1]; exact e, upd_ne (let ⟨_, h, _⟩ := (S.ob i _ e).some; ne_of_none h np)⟩⟩
  · have hl : (M ++ [mo]).length = M.length + 1 := by simp
    rw [hl]
    by_cases h : i < M.length
    · rw [List.getElem?_append_left h] at e
      have r := S.ob i mo' e
      obtain ⟨o', ho, _⟩ := r.some
      rw [phi_lt h]
      exact r.move (keep_new np) (fun k hk => phi_lt hk) (Nat.le_succ _) (upd_ne (ne_of_none ho np))
    · have hi : i = M.length := by
        have := (List.getElem?_eq_some_iff.mp e).1
        simp at this
        omega
      subst hi
      rw [List.getElem?_append_right (Nat.le_refl _)] at e
      simp at e
      subst e
      rw [phi_at]
      exact hr _ fun k hk => phi_lt hk
  · simp at hi hj
    by_cases h1 : i < M.length <;> by_cases h2 : j < M.length
    · rw [phi_lt h1, phi_lt h2] at e; exact S.inj i j h1 h2 e
    · have : j = M.length := by omega
      subst this
      rw [phi_lt h1, phi_at] at e
      obtain ⟨o', ho, _⟩ := S.tracked h1
      rw [e, np] at ho; cases ho
    · have : i = M.length := by omega
      subst this
      rw [phi_lt h2, phi_at] at e
      obtain ⟨o', ho, _⟩ := S.tracked h2
      rw [<- e, np] at ho; cases ho
    · omega
theorem Step.list (S : Sim C φ M H) {p : Addr} {vs : List V} {ws : List W} (np : H p = none) (r : RwAll C φ M.length H vs ws) : Step C φ M H (phi φ M.length p) (M ++ [.lst ws]) (upd H p (.lst vs)) :=
  Step.new S np fun φ' e => ⟨vs, upd_same, r.move (keep_new np) e (Nat.le_succ _)⟩
theorem Rw.new {p : Addr} {mo : MO} : Rw C (phi φ M.length p) (M ++ [mo]).length H (.ref p) (.obj M.length) := by
  have h : Rw C (phi φ M.length p) (M ++ [mo]).length H (.ref (phi φ M.length p M.length)) (.obj M.length) := .obj (by simp)
  rw [phi_at] at h
  exact h
/-- a list of the memory is another one from now on -/
theorem Step.set (S : Sim C φ M H) {i : Nat} {ws ws' : List W} {vs' : List V} (e : M[i]? = some (.lst ws)) (r : RwAll C φ M.length H vs' ws') : Step C φ M H φ (M.set i (.lst ws')) (upd H (φ i) (.lst vs')) := by
  obtain ⟨vs, hv, _⟩ := S.ob i _ e
  have hi : i < M.length := (List.getElem?_eq_some_iff.mp e).1
  have kp : Keep C.K H (upd H (φ i) (.lst vs')) := fun a us h => by
    rcases h with (h | ⟨ob, h⟩) | h
    · exact .inl (.inl (by rw [upd_ne (ne_of h hv (by intro z; cases z))]; exact h))
    · exact .inl (.inr ⟨ob, by rw [upd_ne (ne_of h hv (by intro z; cases z))]; exact h⟩)
    · exact .inr h
  refine ⟨fun _ _ => rfl, by simp, kp, ⟨fun j mo ej => ?_, fun j k hj hk ejk => S.inj j k (by simpa using hj) (by simpa using hk) ejk, fun P hP => ?_, S.scr.keep fun ob e2 => ?_, fun q hq => ⟨(S.lam q hq).1, (S.lam q hq).2.move (fun ps h => by rw [upd_ne (ne_of h hv (by intro z; cases z))]; exact h) fun c h n => ⟨by rw [upd_ne (Ne.symm (n i hi))]; exact h, fun j hj => n j (by simpa using hj)⟩⟩⟩, .same fun j es n ej => ?_⟩
  · rw [List.length_set]
    by_cases h : j = i
    · subst h
      rw [List.getElem?_set_self hi] at ej
      cases ej
      exact ⟨vs', upd_same, r.move kp (fun _ _ => rfl) (Nat.le_refl _)⟩
    · rw [List.getElem?_set_ne (Ne.symm h)] at ej
      have hj : j < M.length := (List.getElem?_eq_some_iff.mp ej).1
      exact (S.ob j mo ej).move kp (fun _ _ => rfl) (Nat.le_refl _) (upd_ne fun z => h (S.inj j i hj hi z))
  · obtain ⟨ps, h, q⟩ := S.tab P hP
    exact ⟨ps, by rw [upd_ne (ne_of h hv (by intro z; cases z))]; exact h, q⟩
  · rw [upd_ne (ne_of e2 hv (by intro z; cases z))]; exact e2
  · have ne : j ≠ i := fun z => by rw [z, e] at ej; cases ej
    have hj : j < M.length := (List.getElem?_eq_some_iff.mp ej).1
    exact ⟨by rw [List.getElem?_set_ne (Ne.symm ne)]; exact ej, upd_ne fun z => ne (S.inj j i hj hi z)⟩
/-- a table grew -/
theorem Step.tab (S : Sim C φ M H) {P : Addr} (hP : P ∈ C.T) (t : TbTo P H H') : Step C φ M H φ M H' := by
  obtain ⟨ps, hp, _⟩ := S.tab P hP
  have off : ∀ {b : Addr} {o : HO}, H b = some o -> (∀ ps, o ≠ .tbl ps) -> H' b = some o := fun {b o} h n => by
    by_cases z : b = P
    · rw [z, hp] at h
      exact absurd (Option.some.inj h).symm (n ps)
    · rw [t.2 b z]; exact h
  have kp : Keep C.K H H' := fun a us h => by
    rcases h with (h | ⟨ob, h⟩) | h
    · exact .inl (.inl (off h fun _ z => nomatch z))
    · exact .inl (.inr ⟨ob, off h fun _ z => nomatch z⟩)
    · exact .inr h
  have same : ∀ {j : Nat} {mo : MO}, RO C φ M.length H (φ j) mo -> H' (φ j) = H (φ j) := fun {j mo} r => by
    obtain ⟨o, ho, hk⟩ := r.some
    rw [ho]
    refine off ho fun ps z => ?_
    rcases hk with ⟨vs, rfl⟩ | ⟨p, rfl⟩ | ⟨L, rfl⟩ <;> cases z
  refine ⟨fun _ _ => rfl, Nat.le_refl _, kp, ⟨fun j mo ej => ?_, S.inj, fun R hR => ?_, S.scr.keep fun ob e2 => off e2 (fun _ z => nomatch z), fun q hq => ⟨(S.lam q hq).1, (S.lam q hq).2.move (fun ps h => by rw [t.2 q.1 fun z => (S.lam q hq).1 (by rw [z]; exact hP)]; exact h) fun c h n => ⟨off h fun ps z => LamX.codeO_ne ps z, n⟩⟩⟩, .same fun j es n ej => ⟨ej, same (S.ob j _ ej)⟩⟩
  · have r := S.ob j mo ej
    have e := same r
    exact r.move kp (fun _ _ => rfl) (Nat.le_refl _) e
  · by_cases z : R = P
    · rw [z]; exact t.1
    · obtain ⟨qs, h', r'⟩ := S.tab R hR
      exact ⟨qs, by rw [t.2 R z]; exact h', r'⟩
end
end Va
namespace Sa
open PySem PySem.Spec PyProof.Rows L2
/-- what a tuple-giving walk of the library is worth to a loop -/
structure Giver (X : Cx) (it : Addr) (fp : List Addr) (i : Nat) (h : Heap) (tn : Nat -> Heap -> Prop) (out : List V -> Prop) : Prop where
  how : ∃ fp' wr n Pt St Mid, WalksT X.prog X.w X.A it fp' wr n Pt St Mid /\ St i h /\ i < n /\ (∀ b ∈ wr, b ∈ fp) /\ (∀ h', St (i + 1) h' -> tn (i + 1) h') /\
    ∀ vals : Array Value, Pt i vals -> ∃ vs : List V, Vals vs vals.toList /\ vs.length <= sizeLine /\ out vs
structure Ender (X : Cx) (it : Addr) (fp : List Addr) (h : Heap) : Prop where
  how : ∃ fp' wr n Pt St Mid, WalksT X.prog X.w X.A it fp' wr n Pt St Mid /\ St n h /\ ∀ b ∈ wr, b ∈ fp
theorem turn_gives {P : Program} {w : World} {K : PySem.W.Frag} {elts : List Expr} {kk : Nat} {tpos : Pos} {J : It} {fp : List Addr} {it : Addr} {tn : Nat -> Heap -> Prop}
    (mem : it ∈ fp) (obj : ∀ i h, tn i h -> ∀ b ∈ fp, ∃ o, h.get? b = some o /\ ∀ v, o.data ≠ .cell v)
    (keep : ∀ i h h', tn i h -> (∀ b ∈ fp, ∀ o, h.get? b = some o -> h'.get? b = some o) -> tn i h')
    (step : ∀ X : Cx, X.prog = P -> X.w = w -> X.K = K -> X.calm = true -> ∀ i pins s σ H, Inv X pins σ H s -> tn i s.heap -> J.go i H ->
      Giver X it fp i s.heap tn fun vs => ∀ T, H T = none -> J.yld i H (.ref T) (upd H T (.tup vs)))
    (last : ∀ X : Cx, X.prog = P -> X.w = w -> X.K = K -> X.calm = true -> ∀ i pins s σ H, Inv X pins σ H s -> tn i s.heap -> J.stop i H -> Ender X it fp s.heap)
    (self : ∀ (A : Around) (i : Nat) (s : Shared) (Q : Value -> Shared -> Prop) (E : Value -> Shared -> Prop), tn i s.heap -> Q (.ref it) s -> wpAny (model P w) A (pyIter (.ref it)) Q E s) :
    Turn P w K (.Tuple elts kk tpos) J fp it tn where
  mem := mem
  obj := obj
  keep := keep
  self := self
  item := by
    intro X hP hw hK hc i pins s σ H E I hf st hg
    obtain ⟨fp', wr, n, Pt, St, Mid, W, hst, hlt, hsub, hnext, hout⟩ := (step X hP hw hK hc i pins s σ H I st hg).how
    subst hP hw hK
    refine W.item i s _ _ hlt hst fun T vals h' tk hP hT hTup hm hk => ⟨.ref T, rfl, ?_⟩
    refine W.go elts kk tpos i T { s with heap := h', toks := tk } _ _ hm fun h2 hst2 hk2 => ?_
    obtain ⟨vs, rel, small, hy⟩ := hout vals hP
    have hn : H T = none := I.hok.fresh hT
    have hTup2 : h2.IsTuple T vals := hTup.at fun o e => hk2 T o (W.apart i T h' hm) e
    have fpOld : ∀ b ∈ fp, b < s.heap.objs.size := fun b hb => by
      obtain ⟨o, e, _⟩ := obj i s.heap st b hb
      exact Heap.lt_size e
    have new : ObjOk X.prog X.w (upd H T (.tup vs)) h2 T (.tup vs) := ⟨small, vals.toList, rel, by rw [Array.toArray_toList]; exact hTup2⟩
    have J1 : Inv X pins σ (upd H T (.tup vs)) { s with heap := h2, toks := tk } :=
      I.turnedNew (t' := tk) (ch := fp) (fun b o hb e => hk2 b o (fun z => hb (hsub b z)) (hk b o (fun z => hb (hsub b z)) e)) hf hT new
    refine ⟨.ref T, _, J1, rfl, hy T hn, hnext h2 hst2, fun b hb => ?_⟩
    rw [upd_ne (Nat.ne_of_lt (Nat.lt_of_lt_of_le (fpOld b hb) hT))]
    exact (hf b hb).1
  done := by
    intro X hP hw hK hc i pins s σ H E I hf st hg
    obtain ⟨fp', wr, n, Pt, St, Mid, W, hst, hsub⟩ := (last X hP hw hK hc i pins s σ H I st hg).how
    subst hP hw hK
    exact W.done s _ _ hst fun h' tk hk => ⟨rfl, I.turnedL (t' := tk) (ch := fp) (fun b o hb e => hk b o (fun z => hb (hsub b z)) e) hf⟩
def SqB (K : PySem.W.Frag) (H : Hp) (b : Bool) (a : Addr) (xs : List V) : Prop := match b with
  | true => SqL K H a xs
  | false => SqT K H a xs
def ItrB (h : Heap) (b : Bool) (it a : Addr) (i : Nat) : Prop := match b with
  | true => h.IsListIter it a i
  | false => h.IsTupleIter it a i
def HasB (h : Heap) (b : Bool) (a : Addr) (items : Array Value) : Prop := match b with
  | true => h.IsList a items
  | false => h.IsTuple a items
def objB (b : Bool) (a : Addr) : Obj := match b with
  | true => { cls := .type "list_iterator", data := .fields #[.ref a, .int 0 0] }
  | false => { cls := .type "tuple_iterator", data := .fields #[.ref a, .int 0 0] }
theorem beginsB (b : Bool) (a : Addr) (items : Array Value) : Begins (.ref a) (objB b a) fun h => HasB h b a items := by
  cases b with
  | true => exact begins_list a items
  | false => exact begins_tuple a items
theorem itrB_new {h : Heap} {b : Bool} {it a : Addr} (e : h.get? it = some (objB b a)) : ItrB h b it a 0 := by
  cases b with
  | true => exact ⟨_, e, rfl, rfl⟩
  | false => exact ⟨_, e, rfl, rfl⟩
theorem ItrB.at {h h' : Heap} {b : Bool} {it a : Addr} {i : Nat} (x : ItrB h b it a i) (k : ∀ o, h.get? it = some o -> h'.get? it = some o) : ItrB h' b it a i := by
  cases b with
  | true => exact Heap.IsListIter.at x k
  | false => exact Heap.IsTupleIter.at x k
theorem ItrB.obj {h : Heap} {b : Bool} {it a : Addr} {i : Nat} (x : ItrB h b it a i) : ∃ o, h.get? it = some o /\ ∀ v, o.data ≠ .cell v := by
  cases b with
  | true =>
    obtain ⟨o, e, _, d⟩ := (show h.IsListIter it a i from x)
    exact ⟨o, e, fun v z => by rw [d] at z; cases z⟩
  | false =>
    obtain ⟨o, e, _, d⟩ := (show h.IsTupleIter it a i from x)
    exact ⟨o, e, fun v z => by rw [d] at z; cases z⟩
theorem drawsB {P : Program} {w : World} {A : Around} (hh : A.handled = none) (b : Bool) (it a : Addr) (ne : a ≠ it) (items : Array Value) :
    Draws P w A it [it, a] items.size (fun i v => items[i]? = some v) (fun i h => ItrB h b it a i /\ HasB h b a items) := by
  cases b with
  | true => exact .list hh it a ne items
  | false => exact .tuple hh it a ne items
section
variable {X : Cx} {pins : List (Addr × Obj)} {σ : L2.St} {H : Hp} {s : Shared}
theorem seqB (I : Inv X pins σ H s) {b : Bool} {a : Addr} {xs : List V} (h : SqB X.K H b a xs) : ∃ its : List Value, Vals xs its /\ HasB s.heap b a its.toArray /\ xs.length <= sizeLine /\ a < s.heap.objs.size := by
  cases b with
  | true =>
    obtain ⟨its, r, p, z⟩ := I.list h
    exact ⟨its, r, p.isList, z, p.lt⟩
  | false =>
    obtain ⟨its, r, p, z⟩ := I.tuple h
    obtain ⟨o, e, _⟩ := id p
    exact ⟨its, r, p, z, Heap.lt_size e⟩
theorem injB (I : Inv X pins σ H s) {b : Bool} {a : Addr} {xs ys : List V} (h : SqB X.K H b a xs) (h2 : SqB X.K H b a ys) : xs = ys := by
  cases b with
  | true => exact I.list_inj h h2
  | false => exact I.tuple_inj h h2
end
end Sa
namespace Sa
open PySem PySem.Spec PyProof.Rows L2
end Sa
namespace Sa
open PySem PySem.Spec PyProof.Rows L2
end Sa
set_option maxHeartbeats 1600000
namespace Sa
open PySem PySem.Spec PyProof.Rows L2 Builtin.Slice
/-- n things of xs from lo on, by steps of k -/
def picked {α : Type} (xs : List α) (lo k : Int) (n : Nat) : List α := (List.range n).filterMap fun (i : Nat) => xs[(lo + (i : Int) * k).toNat]?
/-- what a slice of xs has -/
def cutBy {α : Type} (xs : List α) (a b : Option Int) (k : Int) : List α := picked xs (sliceAdjust a b k xs.length).1 k (slicePlaces (sliceAdjust a b k xs.length).1 (sliceAdjust a b k xs.length).2 k)
theorem picked_back {α : Type} (xs : List α) : ∀ n : Nat, n <= xs.length -> picked xs ((n : Int) - 1) (-1) n = (xs.take n).reverse
  | 0, _ => rfl
  | n + 1, le => by
    have more := picked_back xs n (by omega)
    unfold picked at more ⊢
    have at0 : (((n + 1 : Nat) : Int) - 1 + ((0 : Nat) : Int) * -1).toNat = n := by omega
    have on : ∀ i : Nat, ((n + 1 : Nat) : Int) - 1 + ((i + 1 : Nat) : Int) * -1 = (n : Int) - 1 + (i : Int) * -1 := fun i => by omega
    rw [List.range_succ_eq_map, List.filterMap_cons, List.filterMap_map, at0, List.getElem?_eq_getElem (by omega), List.take_succ_eq_append_getElem (by omega), List.reverse_append, <- more]
    show _ :: _ = _ :: _
    congr 2
    funext i
    show xs[(((n + 1 : Nat) : Int) - 1 + ((i + 1 : Nat) : Int) * -1).toNat]? = _
    rw [on]
theorem cut_back {α : Type} (xs : List α) : cutBy xs none none (-1) = xs.reverse := by
  have e : sliceAdjust none none (-1) (xs.length : Int) = ((xs.length : Int) - 1, -1) := by simp [sliceAdjust]
  have n : slicePlaces ((xs.length : Int) - 1) (-1) (-1) = xs.length := by
    unfold slicePlaces
    rw [if_neg (by decide), show -(-1 : Int) = 1 from rfl, Int.ediv_one]
    split <;> omega
  have z := picked_back xs xs.length (Nat.le_refl _)
  rw [List.take_length] at z
  unfold cutBy
  rw [e, n, z]
theorem picked_rel {R : V -> Value -> Prop} : ∀ {vs : List V} {us : List Value}, Vals vs us -> ∀ (is : List Nat), Vals (is.filterMap (vs[·]?)) (is.filterMap (us[·]?))
  | _, _, _, [] => .nil
  | vs, us, r, i :: is => by
    have more := picked_rel (R := R) r is
    cases e : vs[i]? with
    | none =>
      have e' : us[i]? = none := by
        rw [List.getElem?_eq_none_iff] at e ⊢
        rw [<- r.length]
        exact e
      simp only [List.filterMap_cons, e, e']
      exact more
    | some v =>
      obtain ⟨u, eu, rv⟩ := r.get e
      simp only [List.filterMap_cons, e, eu]
      exact .cons rv more
theorem cut_rel {vs : List V} {us : List Value} (r : Vals vs us) (a b : Option Int) (k : Int) : Vals (cutBy vs a b k) (cutBy us a b k) := by
  have as : ∀ {α : Type} (xs : List α) (lo : Int) (n : Nat), picked xs lo k n = ((List.range n).map fun (i : Nat) => (lo + (i : Int) * k).toNat).filterMap (xs[·]?) := fun xs lo n => by
    rw [List.filterMap_map]
    rfl
  unfold cutBy
  rw [as, as, r.length]
  exact picked_rel (R := RelV) r _
section
variable {P : Program} {w : World} {A : Around} {E : Value -> Shared -> Prop} {s : Shared}
/-- the bounds that a slice comes to -/
theorem bounds_of {sl : Addr} {va vb vk : Value} {a b : Option Int} {k : Int} {n : Nat} {Q : Int × Int × Nat -> Shared -> Prop} (isS : s.heap.IsSliceOf sl va vb vk) (pa : IsPart va a) (pb : IsPart vb b) (pk : IsPart vk (some k)) (k0 : k ≠ 0)
    (q : Q ((sliceAdjust a b k n).1, k, slicePlaces (sliceAdjust a b k n).1 (sliceAdjust a b k n).2 k) s) : wpAny (model P w) A (sliceApplied (.ref sl) (pure (n : Int))) Q E s := by
  obtain ⟨o, at', _, dt⟩ := isS
  have part : ∀ (i : Nat) (v : Value), (#[va, vb, vk] : Array Value)[i]? = some v -> ∀ R : Value -> Shared -> Prop, R v s -> wpAny (model P w) A (field (.ref sl) i) R E s := fun i v e R r => wpAny_field at' dt e r
  unfold sliceApplied sliceFields
  refine wpAny_bind (wpAny_bind (part 0 va rfl _ (wpAny_bind (part 1 vb rfl _ (wpAny_bind (part 2 vk rfl _ (wpAny_pure ?_)))))))
  refine wpAny_bind (HT.slicePart_ pk ?_)
  simp only [Option.getD_some, beq_iff_eq, k0, if_false]
  exact wpAny_bind (HT.slicePart_ pa (wpAny_bind (HT.slicePart_ pb (wpAny_bind (wpAny_pure (wpAny_pure q))))))
/-- t[a:b:k] -/
theorem item_cut {t sl : Addr} {us : List Value} {va vb vk : Value} {a b : Option Int} {k : Int} {Q : Value -> Shared -> Prop} (isT : IsTup s.heap t us.toArray) (isS : s.heap.IsSliceOf sl va vb vk) (pa : IsPart va a) (pb : IsPart vb b) (pk : IsPart vk (some k)) (k0 : k ≠ 0) (k1 : k ≠ 1)
    (small : (cutBy us a b k).length <= sizeLine) (q : Q (.ref s.heap.objs.size) { s with heap := s.heap.push { cls := .type "tuple", data := .seq (cutBy us a b k).toArray } }) : wpAny (model P w) A (getItem (.ref t) (.ref sl)) Q E s := by
  have isS' : s.TypeIs (.ref sl) "slice" := let ⟨o, e, c, _⟩ := isS; ⟨o, e, c⟩
  unfold getItem
  refine wpAny_holding (wpAny_bind (wpAny_sequenceKey isT.typeIs (by decide) (wpAny_bind ?_)))
  refine wpAny_callSpecial?_slot isT.typeIs PyProof.Rows.slot_tuple_getitem (wpAny_call_entry PyProof.Rows.slot_tuple_getitem isT.typeIs entry_tuple_getitem ?_ (args_tuple_getitem _ _))
  refine wpAny_bind (m := Builtin.Tuple.tupleItemsOf _) (tupleItemsOf_ isT (wpAny_bind (wpAny_typeOf isS' ?_)))
  rw [if_pos (by decide), List.size_toArray]
  refine wpAny_bind (bounds_of isS pa pb pk k0 ?_)
  have no : ((k : Int) == 1) = false := by simpa using k1
  simp only [no, Bool.and_false, Bool.false_and, Bool.false_eq_true, if_false]
  have e : (List.range (slicePlaces (sliceAdjust a b k us.length).1 (sliceAdjust a b k us.length).2 k)).filterMap (fun (i : Nat) => us.toArray[((sliceAdjust a b k us.length).1 + (i : Int) * k).toNat]?) = cutBy us a b k := by
    unfold cutBy picked
    simp only [List.getElem?_toArray]
  rw [e]
  refine wpAny_bind (m := Builtin.Tuple.tupleExact _) (wpAny_newObj_type (wpAny_pure ⟨_, rfl, wpAny_pure q⟩) ?_)
  show (cutBy us a b k).toArray.size <= sizeLine
  rw [List.size_toArray]
  exact small
end
section
variable {X : Cx}
/-- e[a:b:k], e a tuple, k neither 0 nor 1 -/
def tCutK (K : PySem.W.Frag) (te : TE) (ta tb tk : TO) : TE := fun σ H Q => te σ H fun x H1 => ta σ H1 fun a H2 => tb σ H2 fun b H3 => tk σ H3 fun k' H4 => ∃ t xs k, x = .ref t /\ SqT K H4 t xs /\ k' = some k /\ k ≠ 0 /\ k ≠ 1 /\ (xs.length <= sizeLine -> (cutBy xs a b k).length <= sizeLine) /\
  ∀ p, H4 p = none -> Q (.ref p) (upd H4 p (.tup (cutBy xs a b k)))
theorem pe_cutK {e : Expr} {ea eb ek : Option Expr} {te : TE} {ta tb tk : TO} {p pos : Pos} (he : PE X e te) (ha : PO X ea ta) (hb : PO X eb tb) (hk : PO X ek tk)
    (hs : ∀ o i, subscripted (.Slice ea eb ek p) false o i = operate [o, i] (getItem o i) := by intro _ _; with_unfolding_all rfl) : PE X (.Subscript e (.Slice ea eb ek p) pos) (tCutK X.K te ta tb tk) := by
  refine ⟨fun pins s σ H Q I h => Subscript_ (thn (he.run pins s σ H _ I h) fun v s1 ⟨x, H1, I1, r1, q1⟩ => wpAny_Slice ?_)⟩
  refine thn (ha.run pins s1 σ H1 _ I1 q1) fun va s2 ⟨a, H2, I2, pa, q2⟩ => thn (hb.run pins s2 σ H2 _ I2 q2) fun vb s3 ⟨b, H3, I3, pb, q3⟩ => thn (hk.run pins s3 σ H3 _ I3 q3) fun vk s4 ⟨k', H4, I4, pk, t, xs, k, ex, sq, ek', k0, k1, small, q⟩ => ?_
  subst ex ek'
  cases r1
  have I5 : Inv X pins σ H4 { s4 with heap := s4.heap.push { cls := .type "slice", data := .fields #[va, vb, vk] } } := I4.kept (t' := s4.toks) fun _ _ => Heap.get?_push_of_some _
  obtain ⟨us, rel, isT, most⟩ := I5.tuple sq
  have small := small most
  have rel' := cut_rel rel a b k
  refine tail_any (ops := [.ref t, .ref s4.heap.objs.size]) isT.typeIs PyProof.Rows.slot_tuple_getitem.lookup ?_ (hs _ _)
  refine item_cut isT (.new _ va vb vk) pa pb pk k0 k1 (by rw [<- rel'.length]; exact small) ?_
  have fresh := I5.hok.fresh (Nat.le_refl _)
  exact ⟨.ref _, _, I5.laid (t' := s4.toks) (o := .tup (cutBy xs a b k)) (fun _ _ => Heap.get?_push_of_some _) (Nat.le_refl _) ⟨small, _, rel', .new _ _⟩, rfl, q _ fresh⟩
/-- e[::-1], e a tuple -/
def tRevT (K : PySem.W.Frag) (te : TE) : TE := fun σ H Q => te σ H fun x H1 => ∃ a xs, x = .ref a /\ SqT K H1 a xs /\ ∀ p, H1 p = none -> Q (.ref p) (upd H1 p (.tup xs.reverse))
theorem pe_revT {e : Expr} {te : TE} {k : Nat} {p1 p2 p3 pos : Pos} (he : PE X e te) : PE X (.Subscript e (.Slice none none (some (.UnaryOp .USub (.Constant (.int 1) k p1) p2)) p3) pos) (tRevT X.K te) := by
  have all : PE X e (fun σ H R => ∃ R0, te σ H R0 /\ ∀ x H1, R0 x H1 -> R x H1) := ⟨fun pins s σ H R I ⟨R0, h, sub⟩ => thn (he.run pins s σ H R0 I h) fun _ _ ⟨x, H1, I1, r, q⟩ => ⟨x, H1, I1, r, sub x H1 q⟩⟩
  refine ⟨fun pins s σ H Q I h => (pe_cutK all po_none po_none (po_some (pe_un un_neg pe_int))).run pins s σ H Q I ⟨_, h, fun x H1 ⟨t, xs, ex, sq, q⟩ => ?_⟩⟩
  refine ⟨1, rfl, -1, rfl, t, xs, -1, ex, sq, rfl, by decide, by decide, fun small => ?_, fun p np => ?_⟩
  · rw [cut_back, List.length_reverse]
    exact small
  · rw [cut_back]
    exact q p np
end
end Sa
set_option maxHeartbeats 1000000
namespace Va
open PySem PySem.Spec PyProof.Rows L2 Sa
def EnvR (C : Ck) (φ : Nat -> Addr) (n : Nat) (H : Hp) (σ : L2.St) (ρ : Ev) : Prop :=
  σ.length = ρ.length /\ ∀ (i : Nat) (w : W), ρ[i]? = some (some w) -> ∃ v, σ[i]? = some (some v) /\ Rw C φ n H v w
section
variable {C : Ck} {φ φ' : Nat -> Addr} {M M' : Mem} {H H' : Hp} {σ : L2.St} {ρ : Ev}
theorem EnvR.step (e : EnvR C φ M.length H σ ρ) (s : Step C φ M H φ' M' H') : EnvR C φ' M'.length H' σ ρ :=
  ⟨e.1, fun i w h => let ⟨v, h1, h2⟩ := e.2 i w h; ⟨v, h1, h2.step s⟩⟩
theorem EnvR.set (e : EnvR C φ M.length H σ ρ) {v : V} {w : W} (r : Rw C φ M.length H v w) (i : Nat) : EnvR C φ M.length H (σ.set i (some v)) (ρ.set i (some w)) := by
  refine ⟨by simp [e.1], fun j w' h => ?_⟩
  by_cases z : i = j
  · subst z
    by_cases hl : i < ρ.length
    · rw [List.getElem?_set_self hl] at h
      cases h
      exact ⟨v, by rw [List.getElem?_set_self (by rw [e.1]; exact hl)], r⟩
    · have : ρ.length <= i := Nat.le_of_not_lt hl
      rw [List.getElem?_eq_none (by simpa using this)] at h
      cases h
  · rw [List.getElem?_set_ne z] at h
    obtain ⟨v', h1, h2⟩ := e.2 j w' h
    exact ⟨v', by rw [List.getElem?_set_ne z]; exact h1, h2⟩
end
def tOf (C : Ck) (f : EvE) : TE := fun σ H Q => ∃ ρ φ M w M', EnvR C φ M.length H σ ρ /\ Sim C φ M H /\ f ρ M = some (w, M') /\
  ∀ v φ' H', Step C φ M H φ' M' H' -> Rw C φ' M'.length H' v w -> Q v H'
def ttOf (C : Ck) (f : EvT) : TT := fun σ H Q => ∃ ρ φ M b M', EnvR C φ M.length H σ ρ /\ Sim C φ M H /\ f ρ M = some (b, M') /\
  ∀ φ' H', Step C φ M H φ' M' H' -> Q b H'
def taOf (C : Ck) (f : EvA) : TA := fun σ H Q => ∃ ρ φ M ws M', EnvR C φ M.length H σ ρ /\ Sim C φ M H /\ f ρ M = some (ws, M') /\
  ∀ vs φ' H', Step C φ M H φ' M' H' -> RwAll C φ' M'.length H' vs ws -> Q vs H'
theorem _root_.L2.PE.weak {X : Cx} {e : Expr} {t t' : TE} (h : PE X e t) (w : ∀ σ H Q, t' σ H Q -> t σ H Q) : PE X e t' := ⟨fun pins s σ H Q I q => h.run pins s σ H Q I (w _ _ _ q)⟩
theorem _root_.L2.PT.weak {X : Cx} {e : Expr} {t t' : TT} (h : PT X e t) (w : ∀ σ H Q, t' σ H Q -> t σ H Q) : PT X e t' := ⟨fun pins s σ H Q I q => h.run pins s σ H Q I (w _ _ _ q)⟩
theorem _root_.L2.PA.weak {X : Cx} {e : List Expr} {t t' : TA} (h : PA X e t) (w : ∀ σ H Q, t' σ H Q -> t σ H Q) : PA X e t' := ⟨fun pos pins s σ H Q I q => h.run pos pins s σ H Q I (w _ _ _ q)⟩
theorem _root_.L2.PW.weak {X : Cx} {e : Expr} {t t' : TT} (h : PW X e t) (w : ∀ σ H Q, t' σ H Q -> t σ H Q) : PW X e t' := ⟨fun wh pins s σ H Q I q => h.run wh pins s σ H Q I (w _ _ _ q)⟩
theorem bsome {α β : Type} {o : Option α} {f : α -> Option β} {r : β} (h : o.bind f = some r) : ∃ x, o = some x /\ f x = some r := by
  cases o with
  | none => cases h
  | some x => exact ⟨x, rfl, h⟩
abbrev O2 := W -> W -> Mem -> Option (W × Mem)
abbrev O1 := W -> Mem -> Option (W × Mem)
def VO2 (C : Ck) (r : R2) (f : O2) : Prop := ∀ φ M H x y a b w M' (Q : VK), Sim C φ M H -> Rw C φ M.length H x a -> Rw C φ M.length H y b -> f a b M = some (w, M') ->
  (∀ v φ' H', Step C φ M H φ' M' H' -> Rw C φ' M'.length H' v w -> Q v H') -> r x y H Q
def VO1 (C : Ck) (r : V -> Hp -> VK -> Prop) (f : O1) : Prop := ∀ φ M H x a w M' (Q : VK), Sim C φ M H -> Rw C φ M.length H x a -> f a M = some (w, M') ->
  (∀ v φ' H', Step C φ M H φ' M' H' -> Rw C φ' M'.length H' v w -> Q v H') -> r x H Q
def VC (C : Ck) (r : List V -> Hp -> VK -> Prop) (f : Fn) : Prop := ∀ φ M H xs as w M' (Q : VK), Sim C φ M H -> RwAll C φ M.length H xs as -> f as M = some (w, M') ->
  (∀ v φ' H', Step C φ M H φ' M' H' -> Rw C φ' M'.length H' v w -> Q v H') -> r xs H Q
def eVar (i : Nat) : EvE := fun ρ M => match ρ[i]? with
  | some (some w) => some (w, M)
  | _ => none
def eC (x : PyData) : EvE := fun _ M => some (.d x, M)
def eOp (f : O2) (a b : EvE) : EvE := fun ρ M => (a ρ M).bind fun p => (b ρ p.2).bind fun q => f p.1 q.1 q.2
def eUn (f : O1) (a : EvE) : EvE := fun ρ M => (a ρ M).bind fun p => f p.1 p.2
def aNil : EvA := fun _ M => some ([], M)
def aCons (a : EvE) (as : EvA) : EvA := fun ρ M => (a ρ M).bind fun p => (as ρ p.2).bind fun q => some (p.1 :: q.1, q.2)
def eCall (f : Fn) (a : EvA) : EvE := fun ρ M => (a ρ M).bind fun p => f p.1 p.2
def asB : W -> Option Bool
  | .d (.bool b) => some b
  | _ => none
def asI : W -> Option Int
  | .d (.int i) => some i
  | _ => none
def tVal (a : EvE) : EvT := fun ρ M => (a ρ M).bind fun p => (asB p.1).map (·, p.2)
def tNotE (a : EvT) : EvT := fun ρ M => (a ρ M).bind fun p => some (!p.1, p.2)
def tAndE (a b : EvT) : EvT := fun ρ M => (a ρ M).bind fun p => if p.1 = true then b ρ p.2 else some (false, p.2)
def tOrE (a b : EvT) : EvT := fun ρ M => (a ρ M).bind fun p => if p.1 = true then some (true, p.2) else b ρ p.2
def eAnd (a b : EvE) : EvE := fun ρ M => (a ρ M).bind fun p => (asB p.1).bind fun c => if c = true then b ρ p.2 else some (.d (.bool false), p.2)
def eOr (a b : EvE) : EvE := fun ρ M => (a ρ M).bind fun p => (asB p.1).bind fun c => if c = true then some (.d (.bool true), p.2) else b ρ p.2
def eNot (a : EvE) : EvE := fun ρ M => (a ρ M).bind fun p => (asB p.1).bind fun c => some (.d (.bool (!c)), p.2)
def eIf (c : EvT) (a b : EvE) : EvE := fun ρ M => (c ρ M).bind fun p => if p.1 = true then a ρ p.2 else b ρ p.2
def eTup (a : EvA) : EvE := fun ρ M => (a ρ M).bind fun p => if p.1.length <= sizeLine then some (mkTup p.1, p.2) else none
def eLst (a : EvA) : EvE := fun ρ M => (a ρ M).bind fun p => if p.1.length <= sizeLine then some (.obj p.2.length, p.2 ++ [.lst p.1]) else none
theorem asB_eq {w : W} {b : Bool} (h : asB w = some b) : w = .d (.bool b) := by
  cases w with
  | d x => cases x <;> simp [asB] at h; rw [h]
  | obj i => cases h
  | scr => cases h
  | pack ws => cases h
  | fn => cases h
theorem asI_eq {w : W} {b : Int} (h : asI w = some b) : w = .d (.int b) := by
  cases w with
  | d x => cases x <;> simp [asI] at h; rw [h]
  | obj i => cases h
  | scr => cases h
  | pack ws => cases h
  | fn => cases h
theorem Rw.isB {C : Ck} {φ : Nat -> Addr} {n : Nat} {H : Hp} {v : V} {b : Bool} (r : Rw C φ n H v (.d (.bool b))) : v = .bl b := by
  cases r with | d r => cases r; rfl
theorem isB_of {C : Ck} {φ : Nat -> Addr} {n : Nat} {H : Hp} {v : V} {w : W} {b : Bool} (h : asB w = some b) (r : Rw C φ n H v w) : v = .bl b := by
  rw [asB_eq h] at r
  exact r.isB
theorem Rw.isI {C : Ck} {φ : Nat -> Addr} {n : Nat} {H : Hp} {v : V} {b : Int} (r : Rw C φ n H v (.d (.int b))) : v = .int b := by
  cases r with | d r => cases r; rfl
theorem Rw.isS {C : Ck} {φ : Nat -> Addr} {n : Nat} {H : Hp} {v : V} {b : Str} (r : Rw C φ n H v (.d (.str b))) : v = .str b := by
  cases r with | d r => cases r; rfl
theorem Rw.isO {C : Ck} {φ : Nat -> Addr} {n : Nat} {H : Hp} {v : V} {i : Nat} (r : Rw C φ n H v (.obj i)) : v = .ref (φ i) /\ i < n := by
  cases r with | obj h => exact ⟨rfl, h⟩
section
variable {C : Ck} {X : Cx} {a b c e : Expr} {es : List Expr} {fa fb : EvE} {fc fd : EvT} {fs : EvA} {pos : Pos}
theorem q_var (i : Nat) {x : Str} (h : PE X (.Name x pos) (tVar i)) : PE X (.Name x pos) (tOf C (eVar i)) :=
  h.weak fun σ H Q ⟨ρ, φ, M, w, M', env, sim, e, q⟩ => by
    unfold eVar at e
    split at e
    · rename_i w' hw
      cases e
      obtain ⟨v, h1, h2⟩ := env.2 i w hw
      exact ⟨v, h1, q v φ H (.refl sim) h2⟩
    · cases e
theorem qv (i : Nat) {x : Str} {pos : Pos} (hN : X.N[i]? = some x := by rfl) (hv : Vis X.env.scope x := by first | exact Or.inl rfl | exact Or.inr (Or.inl rfl) | exact Or.inr (Or.inr rfl)) (hd : (x == ("__debug__" : Str)) = false := by decide)
    (hcd : (x == ("__classdict__" : Str)) = false := by decide) : PE X (.Name x pos) (tOf C (eVar i)) := q_var i (pe_var hN hv hd hcd)
theorem q_c {v : V} {x : PyData} (h : PE X e (tC v)) (r : ∀ H, Rp C.K H v x) : PE X e (tOf C (eC x)) :=
  h.weak fun σ H Q ⟨ρ, φ, M, w, M', env, sim, e, q⟩ => by
    cases e
    exact q v φ H (.refl sim) (.d (r H))
theorem q_int {i : Int} {j : Nat} : PE X (.Constant (.int i) j pos) (tOf C (eC (.int i))) := q_c pe_int fun _ => .int i
theorem q_bl {b : Bool} {j : Nat} : PE X (.Constant (.bool b) j pos) (tOf C (eC (.bool b))) := q_c pe_bl fun _ => .bl b
theorem q_non {j : Nat} : PE X (.Constant .none j pos) (tOf C (eC .none)) := q_c pe_non fun _ => .non
theorem q_str {x : Str} {j : Nat} : PE X (.Constant (.str x) j pos) (tOf C (eC (.str x))) := q_c pe_str fun _ => .str x
theorem two_of {f : O2} {r : R2} (hv : VO2 C r f) {σ : L2.St} {H : Hp} {Q : VK} (h : tOf C (eOp f fa fb) σ H Q) : tOp r (tOf C fa) (tOf C fb) σ H Q := by
  obtain ⟨ρ, φ, M, w, M', env, sim, e, q⟩ := h
  obtain ⟨⟨x, M1⟩, e1, e⟩ := bsome e
  obtain ⟨⟨y, M2⟩, e2, e⟩ := bsome e
  refine ⟨ρ, φ, M, x, M1, env, sim, e1, fun v1 φ1 H1 s1 r1 => ⟨ρ, φ1, M1, y, M2, env.step s1, s1.sim, e2, fun v2 φ2 H2 s2 r2 => ?_⟩⟩
  exact hv φ2 M2 H2 v1 v2 x y w M' Q s2.sim (r1.step s2) r2 e fun v3 φ3 H3 s3 r3 => q v3 φ3 H3 (s1.trans (s2.trans s3)) r3
theorem q_op {op : Operator} {r : R2} {f : O2} (ho : OpR X (binaryOp op) r) (hv : VO2 C r f) (ha : PE X a (tOf C fa)) (hb : PE X b (tOf C fb)) : PE X (.BinOp a op b pos) (tOf C (eOp f fa fb)) :=
  (pe_op ho ha hb).weak fun σ H Q h => two_of hv h
theorem q_cmp {op : CmpOp} {r : R2} {f : O2} (ho : OpR X (compareOp op) r) (hv : VO2 C r f) (ha : PE X a (tOf C fa)) (hb : PE X b (tOf C fb)) (hm : behindInMarks op b = false) : PE X (.Compare a [op] [b] pos) (tOf C (eOp f fa fb)) :=
  (pe_cmpR ho ha hb hm).weak fun σ H Q h => two_of hv h
theorem qt_cmp {op : CmpOp} {r : R2} {f : O2} (ho : OpR X (compareOp op) r) (hv : VO2 C r f) (ha : PE X a (tOf C fa)) (hb : PE X b (tOf C fb)) (hm : behindInMarks op b = false) : PT X (.Compare a [op] [b] pos) (ttOf C (tVal (eOp f fa fb))) :=
  (pt_cmpR ho ha hb hm).weak fun σ H Q ⟨ρ, φ, M, k, M', env, sim, e, q⟩ => by
    obtain ⟨⟨w, M1⟩, e1, e⟩ := bsome e
    simp only [Option.map_eq_some_iff] at e
    obtain ⟨k', hk, e⟩ := e
    cases e
    refine two_of hv ⟨ρ, φ, M, w, M', env, sim, e1, fun v φ' H' s r => ⟨k, ?_, q φ' H' s⟩⟩
    rw [asB_eq hk] at r
    exact r.isB
theorem qt_val (h : PE X e (tOf C fa)) (he : ∀ whole, isTrue e X.env whole = (do let v <- whole; standAt e.pos; holding [v] (truthy v)) := by intro _; rfl) : PT X e (ttOf C (tVal fa)) :=
  (pt_val h he).weak fun σ H Q ⟨ρ, φ, M, k, M', env, sim, e, q⟩ => by
    obtain ⟨⟨w, M1⟩, e1, e⟩ := bsome e
    simp only [Option.map_eq_some_iff] at e
    obtain ⟨k', hk, e⟩ := e
    cases e
    refine ⟨ρ, φ, M, w, M', env, sim, e1, fun v φ' H' s r => ⟨k, ?_, q φ' H' s⟩⟩
    rw [asB_eq hk] at r
    exact r.isB
theorem qt_not (h : PT X a (ttOf C fc)) : PT X (.UnaryOp .Not a pos) (ttOf C (tNotE fc)) :=
  (pt_not h).weak fun σ H Q ⟨ρ, φ, M, k, M', env, sim, e, q⟩ => by
    obtain ⟨⟨k1, M1⟩, e1, e⟩ := bsome e
    cases e
    exact ⟨ρ, φ, M, k1, _, env, sim, e1, q⟩
theorem tAnd_of {σ : L2.St} {H : Hp} {Q : Bool -> Hp -> Prop} (h : ttOf C (tAndE fc fd) σ H Q) : tAnd (ttOf C fc) (ttOf C fd) σ H Q := by
  obtain ⟨ρ, φ, M, k, M', env, sim, e, q⟩ := h
  obtain ⟨⟨k1, M1⟩, e1, e⟩ := bsome e
  refine ⟨ρ, φ, M, k1, M1, env, sim, e1, fun φ1 H1 s1 => ?_⟩
  cases k1 with
  | true => exact ⟨ρ, φ1, M1, k, M', env.step s1, s1.sim, e, fun φ2 H2 s2 => q φ2 H2 (s1.trans s2)⟩
  | false => cases e; exact q φ1 H1 s1
theorem tOr_of {σ : L2.St} {H : Hp} {Q : Bool -> Hp -> Prop} (h : ttOf C (tOrE fc fd) σ H Q) : tOr (ttOf C fc) (ttOf C fd) σ H Q := by
  obtain ⟨ρ, φ, M, k, M', env, sim, e, q⟩ := h
  obtain ⟨⟨k1, M1⟩, e1, e⟩ := bsome e
  refine ⟨ρ, φ, M, k1, M1, env, sim, e1, fun φ1 H1 s1 => ?_⟩
  cases k1 with
  | false => exact ⟨ρ, φ1, M1, k, M', env.step s1, s1.sim, e, fun φ2 H2 s2 => q φ2 H2 (s1.trans s2)⟩
  | true => cases e; exact q φ1 H1 s1
theorem qw_and1 (ha : PT X a (ttOf C fc)) : PW X (.BoolOp .And [a] pos) (ttOf C fc) := pw_and1 ha
theorem qw_or1 (ha : PT X a (ttOf C fc)) : PW X (.BoolOp .Or [a] pos) (ttOf C fc) := pw_or1 ha
theorem qw_and {rest : List Expr} (ha : PT X a (ttOf C fc)) (hb : PW X (.BoolOp .And (b :: rest) pos) (ttOf C fd)) : PW X (.BoolOp .And (a :: b :: rest) pos) (ttOf C (tAndE fc fd)) := (pw_and ha hb).weak fun _ _ _ h => tAnd_of h
theorem qw_or {rest : List Expr} (ha : PT X a (ttOf C fc)) (hb : PW X (.BoolOp .Or (b :: rest) pos) (ttOf C fd)) : PW X (.BoolOp .Or (a :: b :: rest) pos) (ttOf C (tOrE fc fd)) := (pw_or ha hb).weak fun _ _ _ h => tOr_of h
theorem q_one {op : BoolOp} (h : PE X a (tOf C fa)) : PE X (.BoolOp op [a] pos) (tOf C fa) := pe_one h
theorem q_and {rest : List Expr} (ha : PE X a (tOf C fa)) (hb : PE X (.BoolOp .And (b :: rest) pos) (tOf C fb)) : PE X (.BoolOp .And (a :: b :: rest) pos) (tOf C (eAnd fa fb)) :=
  (pe_and ha hb).weak fun σ H Q ⟨ρ, φ, M, w, M', env, sim, e, q⟩ => by
    obtain ⟨⟨x, M1⟩, e1, e⟩ := bsome e
    obtain ⟨k, hk, e⟩ := bsome e
    refine ⟨ρ, φ, M, x, M1, env, sim, e1, fun v φ1 H1 s1 r1 => ⟨k, (isB_of hk r1), ?_⟩⟩
    cases k with
    | true => exact ⟨ρ, φ1, M1, w, M', env.step s1, s1.sim, e, fun v φ2 H2 s2 r => q v φ2 H2 (s1.trans s2) r⟩
    | false => cases e; exact q _ φ1 H1 s1 (.d (.bl _))
theorem q_or {rest : List Expr} (ha : PE X a (tOf C fa)) (hb : PE X (.BoolOp .Or (b :: rest) pos) (tOf C fb)) : PE X (.BoolOp .Or (a :: b :: rest) pos) (tOf C (eOr fa fb)) :=
  (pe_or ha hb).weak fun σ H Q ⟨ρ, φ, M, w, M', env, sim, e, q⟩ => by
    obtain ⟨⟨x, M1⟩, e1, e⟩ := bsome e
    obtain ⟨k, hk, e⟩ := bsome e
    refine ⟨ρ, φ, M, x, M1, env, sim, e1, fun v φ1 H1 s1 r1 => ⟨k, (isB_of hk r1), ?_⟩⟩
    cases k with
    | false => exact ⟨ρ, φ1, M1, w, M', env.step s1, s1.sim, e, fun v φ2 H2 s2 r => q v φ2 H2 (s1.trans s2) r⟩
    | true => cases e; exact q _ φ1 H1 s1 (.d (.bl _))
theorem q_not (ha : PE X a (tOf C fa)) : PE X (.UnaryOp .Not a pos) (tOf C (eNot fa)) :=
  (pe_not ha).weak fun σ H Q ⟨ρ, φ, M, w, M', env, sim, e, q⟩ => by
    obtain ⟨⟨x, M1⟩, e1, e⟩ := bsome e
    obtain ⟨k, hk, e⟩ := bsome e
    cases e
    refine ⟨ρ, φ, M, x, _, env, sim, e1, fun v φ1 H1 s1 r1 => ⟨k, (isB_of hk r1), ?_⟩⟩
    exact q _ φ1 H1 s1 (.d (.bl _))
theorem q_ifE (hc : PT X c (ttOf C fc)) (ha : PE X a (tOf C fa)) (hb : PE X b (tOf C fb)) : PE X (.IfExp c a b pos) (tOf C (eIf fc fa fb)) :=
  (pe_ifExp hc ha hb).weak fun σ H Q ⟨ρ, φ, M, w, M', env, sim, e, q⟩ => by
    obtain ⟨⟨k, M1⟩, e1, e⟩ := bsome e
    refine ⟨ρ, φ, M, k, M1, env, sim, e1, fun φ1 H1 s1 => ?_⟩
    cases k with
    | true => exact ⟨ρ, φ1, M1, w, M', env.step s1, s1.sim, e, fun v φ2 H2 s2 r => q v φ2 H2 (s1.trans s2) r⟩
    | false => exact ⟨ρ, φ1, M1, w, M', env.step s1, s1.sim, e, fun v φ2 H2 s2 r => q v φ2 H2 (s1.trans s2) r⟩
theorem q_un {op : UnaryOp} {r : V -> Hp -> VK -> Prop} {f : O1} (ho : UnR X (unaryOp op) r) (hv : VO1 C r f) (ha : PE X a (tOf C fa)) : PE X (.UnaryOp op a pos) (tOf C (eUn f fa)) :=
  (pe_un ho ha).weak fun σ H Q ⟨ρ, φ, M, w, M', env, sim, e, q⟩ => by
    obtain ⟨⟨x, M1⟩, e1, e⟩ := bsome e
    exact ⟨ρ, φ, M, x, M1, env, sim, e1, fun v φ1 H1 s1 r1 => hv φ1 M1 H1 v x w M' Q s1.sim r1 e fun v2 φ2 H2 s2 r2 => q v2 φ2 H2 (s1.trans s2) r2⟩
theorem qa_nil : PA X [] (taOf C aNil) := pa_nil.weak fun σ H Q ⟨ρ, φ, M, w, M', env, sim, e, q⟩ => by
  cases e
  exact q [] φ H (.refl sim) .nil
theorem qa_cons (ha : PE X e (tOf C fa)) (hr : PA X es (taOf C fs)) (hs : starEach (e :: es) X.env = (false, eval e X.env) :: starEach es X.env := by rfl) : PA X (e :: es) (taOf C (aCons fa fs)) :=
  (pa_cons ha hr hs).weak fun σ H Q ⟨ρ, φ, M, w, M', env, sim, e, q⟩ => by
    obtain ⟨⟨x, M1⟩, e1, e⟩ := bsome e
    obtain ⟨⟨xs, M2⟩, e2, e⟩ := bsome e
    cases e
    refine ⟨ρ, φ, M, x, M1, env, sim, e1, fun v φ1 H1 s1 r1 => ⟨ρ, φ1, M1, xs, _, env.step s1, s1.sim, e2, fun vs φ2 H2 s2 r2 => ?_⟩⟩
    exact q _ φ2 H2 (s1.trans s2) (.cons (r1.step s2) r2)
theorem q_tup {x1 : Nat} (h : PA X es (taOf C fs)) : PE X (.Tuple es x1 pos) (tOf C (eTup fs)) :=
  (pe_tup h).weak fun σ H Q ⟨ρ, φ, M, w, M', env, sim, e, q⟩ => by
    obtain ⟨⟨xs, M1⟩, e1, e⟩ := bsome e
    split at e
    · rename_i z
      cases e
      refine ⟨ρ, φ, M, xs, _, env, sim, e1, fun vs φ1 H1 s1 r1 => ⟨by rw [r1.length]; exact z, fun p np => ?_⟩⟩
      have s2 := Step.tup (o := .tup vs) s1.sim np
      exact q _ φ1 _ (s1.trans s2) (.tup (SqT.of upd_same) (r1.step s2))
    · cases e
theorem q_lst (h : PA X es (taOf C fs)) : PE X (.List es pos) (tOf C (eLst fs)) :=
  (pe_lst h).weak fun σ H Q ⟨ρ, φ, M, w, M', env, sim, e, q⟩ => by
    obtain ⟨⟨xs, M1⟩, e1, e⟩ := bsome e
    split at e
    · rename_i z
      cases e
      refine ⟨ρ, φ, M, xs, _, env, sim, e1, fun vs φ1 H1 s1 r1 => ⟨by rw [r1.length]; exact z, fun p np => ?_⟩⟩
      exact q _ _ _ (s1.trans (.list s1.sim np r1)) .new
    · cases e
theorem call_of {r : List V -> Hp -> VK -> Prop} {f : Fn} (hv : VC C r f) {σ : L2.St} {H : Hp} {Q : VK} (h : tOf C (eCall f fs) σ H Q) : tCB r (taOf C fs) σ H Q := by
  obtain ⟨ρ, φ, M, w, M', env, sim, e, q⟩ := h
  obtain ⟨⟨xs, M1⟩, e1, e⟩ := bsome e
  exact ⟨ρ, φ, M, xs, M1, env, sim, e1, fun v φ1 H1 s1 r1 => hv φ1 M1 H1 v xs w M' Q s1.sim r1 e fun v2 φ2 H2 s2 r2 => q v2 φ2 H2 (s1.trans s2) r2⟩
theorem q_callB {x : Str} {p : Pos} {id : String} {r : List V -> Hp -> VK -> Prop} {f : Fn} (hc : CallR X (.builtin id) r) (hf : VC C r f) (hg : Gl X x) (hm : X.mg x = none) (hv : bootBuiltins x = some (.builtin id)) (ha : PA X (e :: es) (taOf C fs)) (hn : x ≠ "__name__" := by decide) (hdb : (x == ("__debug__" : Str)) = false := by decide)
    (he : starEach (e :: es) X.env = (false, eval e X.env) :: starEach es X.env := by rfl) (hpl : (backTo pos (starEach es X.env)).any (·.1) = false := by rfl) : PE X (.Call (.Name x p) (e :: es) [] pos) (tOf C (eCall f fs)) :=
  (pe_callB hc hg hm hv ha hn hdb he hpl).weak fun _ _ _ h => call_of hf h
theorem q_callTy {x : Str} {p : Pos} {T : String} {r : List V -> Hp -> VK -> Prop} {f : Fn} (hc : CallR X (.type T) r) (hf : VC C r f) (hg : Gl X x) (hm : X.mg x = none) (hv : bootBuiltins x = some (.type T)) (ha : PA X (e :: es) (taOf C fs)) (hn : x ≠ "__name__" := by decide) (hdb : (x == ("__debug__" : Str)) = false := by decide)
    (he : starEach (e :: es) X.env = (false, eval e X.env) :: starEach es X.env := by rfl) (hpl : (backTo pos (starEach es X.env)).any (·.1) = false := by rfl) : PE X (.Call (.Name x p) (e :: es) [] pos) (tOf C (eCall f fs)) :=
  (pe_callTy hc hg hm hv ha hn hdb he hpl).weak fun _ _ _ h => call_of hf h
/-- a def's promise by its function -/
def spV (C : Ck) (n : Nat) (F : Fn) : Sp := fun vs H Q _ => ∃ φ M ws w M', RwAll C φ M.length H vs ws /\ vs.length = n /\ Sim C φ M H /\ F ws M = some (w, M') /\
  ∀ v φ' H', Step C φ M H φ' M' H' -> Rw C φ' M'.length H' v w -> Q v H'
def eDef (n : Nat) (F : Fn) (a : EvA) : EvE := fun ρ M => (a ρ M).bind fun p => if p.1.length = n then F p.1 p.2 else none
theorem q_df {k n : Nat} {ps : List Str} {F : Fn} {x : Str} {p : Pos} (D : Df X.prog X.w X.K X.mg X.base k x ps (spV C n F)) (hr : Room k X.A) (hf : Free X.A) (hg : Gl X x) (args : PA X (e :: es) (taOf C fs)) (nd : (x == ("__debug__" : Str)) = false := by decide)
    (he : starEach (e :: es) X.env = (false, eval e X.env) :: starEach es X.env := by rfl) (np : (backTo pos (starEach es X.env)).any (·.1) = false := by rfl) :
    PE X (.Call (.Name x p) (e :: es) [] pos) (tOf C (eDef n F fs)) :=
  (pe_df D hr hf hg args nd he np).weak fun σ H Q ⟨ρ, φ, M, w, M', env, sim, e, q⟩ => by
    obtain ⟨⟨xs, M1⟩, e1, e⟩ := bsome e
    split at e
    · rename_i z
      refine ⟨ρ, φ, M, xs, M1, env, sim, e1, fun vs φ1 H1 s1 r1 => ?_⟩
      show spV C n F (vs ++ []) H1 Q E0
      rw [List.append_nil]
      exact ⟨φ1, M1, xs, w, M', r1, by rw [r1.length]; exact z, s1.sim, e, fun v φ2 H2 s2 r2 => q v φ2 H2 (s1.trans s2) r2⟩
    · cases e
end
end Va
namespace Va
open PySem PySem.Spec PyProof.Rows L2 Sa
def Only (is : List Nat) (σ σ' : L2.St) : Prop := σ'.length = σ.length /\ ∀ i, i ∉ is -> σ'[i]? = σ[i]?
theorem Only.refl {is : List Nat} {σ : L2.St} : Only is σ σ := ⟨rfl, fun _ _ => rfl⟩
theorem Only.trans {is js : List Nat} {σ σ1 σ2 : L2.St} (a : Only is σ σ1) (b : Only js σ1 σ2) : Only (is ++ js) σ σ2 :=
  ⟨b.1.trans a.1, fun i h => (b.2 i fun z => h (List.mem_append_right _ z)).trans (a.2 i fun z => h (List.mem_append_left _ z))⟩
def tgOf (C : Ck) (is : List Nat) (g : EvG) : TG := fun v σ H Q => ∃ ρ φ M w ρ', EnvR C φ M.length H σ ρ /\ Sim C φ M H /\ Rw C φ M.length H v w /\ g w ρ = some ρ' /\
  ∀ σ', EnvR C φ M.length H σ' ρ' -> Only is σ σ' -> Q σ' H
def tgsOf (C : Ck) (is : List Nat) (g : List W -> Ev -> Option Ev) : TGs := fun vs σ H Q => ∃ ρ φ M ws ρ', EnvR C φ M.length H σ ρ /\ Sim C φ M H /\ RwAll C φ M.length H vs ws /\ g ws ρ = some ρ' /\
  ∀ σ', EnvR C φ M.length H σ' ρ' -> Only is σ σ' -> Q σ' H
theorem _root_.L2.PG.weak {X : Cx} {e : Expr} {t t' : TG} (h : PG X e t) (w : ∀ v σ H Q, t' v σ H Q -> t v σ H Q) : PG X e t' := ⟨fun pins s σ H v u Q I r q => h.run pins s σ H v u Q I r (w _ _ _ _ q)⟩
theorem _root_.L2.PGs.weak {X : Cx} {e : List Expr} {t t' : TGs} (h : PGs X e t) (w : ∀ v σ H Q, t' v σ H Q -> t v σ H Q) : PGs X e t' := ⟨fun pins s σ H v u Q I r q => h.run pins s σ H v u Q I r (w _ _ _ _ q)⟩
def gN (i : Nat) : EvG := fun w ρ => some (ρ.set i (some w))
def gs0 : List W -> Ev -> Option Ev := fun ws ρ => match ws with
  | [] => some ρ
  | _ => none
def gsC (g : EvG) (gs : List W -> Ev -> Option Ev) : List W -> Ev -> Option Ev := fun ws ρ => match ws with
  | [] => none
  | w :: r => (g w ρ).bind fun ρ1 => gs r ρ1
def gT (n : Nat) (gs : List W -> Ev -> Option Ev) : EvG := fun w ρ => (tupOf w).bind fun ws => if ws.length = n then gs ws ρ else none
section
variable {C : Ck} {X : Cx} {pos : Pos} {is js : List Nat}
theorem qg_name {i : Nat} {x : Str} (hN : X.N.Nodup) (hi : X.N[i]? = some x) (hx : Loc X.env.scope x) (hf : X.fn x = true ∨ X.env.scope.names.lookup x = some .local := by first | exact .inl rfl | exact .inr rfl | assumption) :
    PG X (.Name x pos) (tgOf C [i] (gN i)) :=
  (pg_name hN hi hx hf).weak fun v σ H Q ⟨ρ, φ, M, w, ρ', env, sim, r, e, q⟩ => by
    cases e
    exact q _ (env.set r i) ⟨by simp, fun j h => List.getElem?_set_ne fun z => h (by rw [z]; exact List.mem_singleton.mpr rfl)⟩
theorem qgs_nil : PGs X [] (tgsOf C [] gs0) := pgs_nil.weak fun v σ H Q ⟨ρ, φ, M, w, ρ', env, sim, r, e, q⟩ => by
  cases w with
  | nil =>
    cases e
    cases r
    exact ⟨rfl, q σ env .refl⟩
  | cons => cases e
theorem qgs_cons {e : Expr} {es : List Expr} {g : EvG} {gs : List W -> Ev -> Option Ev} (h1 : PG X e (tgOf C is g)) (h2 : PGs X es (tgsOf C js gs)) (hs : (assignEach (e :: es) X.env).map (·.2) = assign e X.env :: (assignEach es X.env).map (·.2) := by rfl) : PGs X (e :: es) (tgsOf C (is ++ js) (gsC g gs)) :=
  (pgs_cons h1 h2 hs).weak fun v σ H Q ⟨ρ, φ, M, w, ρ', env, sim, r, e, q⟩ => by
    cases w with
    | nil => cases e
    | cons w ws =>
      obtain ⟨ρ1, e1, e⟩ := bsome e
      cases r with
      | cons r1 r2 => exact ⟨_, _, rfl, ρ, φ, M, w, ρ1, env, sim, r1, e1, fun σ1 env1 o1 => ⟨ρ1, φ, M, ws, ρ', env1, sim, r2, e, fun σ2 env2 o2 => q σ2 env2 (o1.trans o2)⟩⟩
theorem qg_tup {es : List Expr} {k n : Nat} {gs : List W -> Ev -> Option Ev} (hc : X.calm = true) (hK : X.K = C.K) (h : PGs X es (tgsOf C is gs))
    (hn : (assignEach es X.env).length = n := by rfl) (hst : (assignEach es X.env).findIdx? (·.1) = none := by rfl) : PG X (.Tuple es k pos) (tgOf C is (gT n gs)) :=
  (pg_tup hc h hn hst).weak fun v σ H Q ⟨ρ, φ, M, w, ρ', env, sim, r, e, q⟩ => by
    obtain ⟨ws, e1, e⟩ := bsome e
    split at e
    · rename_i hl
      have hl : ws.length = n := hl
      obtain ⟨a, vs, rfl, sq, r2⟩ := r.un e1
      exact ⟨a, vs, rfl, by rw [hK]; exact sq, by rw [r2.length]; exact hl, ρ, φ, M, ws, ρ', env, sim, r2, e, q⟩
    · cases e
end
def Fin' (C : Ck) (D : Ends) (φ : Nat -> Addr) (M : Mem) (H : Hp) : Out -> Prop
  | .nx ρ' M' => ∀ σ' φ' H', Step C φ M H φ' M' H' -> EnvR C φ' M'.length H' σ' ρ' -> D.nx σ' H'
  | .bk ρ' M' => ∀ σ' φ' H', Step C φ M H φ' M' H' -> EnvR C φ' M'.length H' σ' ρ' -> D.bk σ' H'
  | .ct ρ' M' => ∀ σ' φ' H', Step C φ M H φ' M' H' -> EnvR C φ' M'.length H' σ' ρ' -> D.ct σ' H'
  | .rt w M' => ∀ v φ' H', Step C φ M H φ' M' H' -> Rw C φ' M'.length H' v w -> D.rt v H'
theorem Fin'.step {C : Ck} {D : Ends} {φ φ' : Nat -> Addr} {M M' : Mem} {H H' : Hp} {o : Out} (s : Step C φ M H φ' M' H') (h : Fin' C D φ M H o) : Fin' C D φ' M' H' o := by
  cases o with
  | nx ρ M1 => exact fun σ1 φ1 H1 s1 e => h σ1 φ1 H1 (s.trans s1) e
  | bk ρ M1 => exact fun σ1 φ1 H1 s1 e => h σ1 φ1 H1 (s.trans s1) e
  | ct ρ M1 => exact fun σ1 φ1 H1 s1 e => h σ1 φ1 H1 (s.trans s1) e
  | rt w M1 => exact fun v φ1 H1 s1 e => h v φ1 H1 (s.trans s1) e
def tsOf (C : Ck) (g : EvS) : TS := fun D σ H => ∃ ρ φ M o, EnvR C φ M.length H σ ρ /\ Sim C φ M H /\ g ρ M = some o /\ Fin' C D φ M H o
theorem _root_.L2.PS.weak {X : Cx} {e : Stmt} {t t' : TS} (h : PS X e t) (w : ∀ D σ H, t' D σ H -> t D σ H) : PS X e t' := ⟨fun pins s σ H D I q => h.run pins s σ H D I (w _ _ _ q)⟩
theorem _root_.L2.PSs.weak {X : Cx} {e : List Stmt} {t t' : TS} (h : PSs X e t) (w : ∀ D σ H, t' D σ H -> t D σ H) : PSs X e t' := ⟨fun pins s σ H D I q => h.run pins s σ H D I (w _ _ _ q)⟩
def sNil : EvS := fun ρ M => some (.nx ρ M)
def sSeq (a b : EvS) : EvS := fun ρ M => (a ρ M).bind fun o => match o with
  | .nx ρ1 M1 => b ρ1 M1
  | o => some o
def sIf (c : EvT) (a b : EvS) : EvS := fun ρ M => (c ρ M).bind fun p => if p.1 = true then a ρ p.2 else b ρ p.2
def sRet (a : EvE) : EvS := fun ρ M => (a ρ M).bind fun p => some (.rt p.1 p.2)
def sSet (i : Nat) (a : EvE) : EvS := fun ρ M => (a ρ M).bind fun p => some (.nx (ρ.set i (some p.1)) p.2)
def sAsg (a : EvE) (g : EvG) : EvS := fun ρ M => (a ρ M).bind fun p => (g p.1 ρ).bind fun ρ1 => some (.nx ρ1 p.2)
def sPar (i j : Nat) (a : EvA) : EvS := fun ρ M => (a ρ M).bind fun p => match p.1 with
  | [x, y] => some (.nx ((ρ.set i (some x)).set j (some y)) p.2)
  | _ => none
def sExpr (a : EvE) : EvS := fun ρ M => (a ρ M).bind fun p => some (.nx ρ p.2)
def lstAt (M : Mem) : W -> Option (Nat × List W)
  | .obj i => match M[i]? with
    | some (.lst ws) => some (i, ws)
    | _ => none
  | _ => none
theorem lstAt_eq {M : Mem} {w : W} {i : Nat} {ws : List W} (h : lstAt M w = some (i, ws)) : w = .obj i /\ M[i]? = some (.lst ws) := by
  cases w with
  | obj j =>
    simp only [lstAt] at h
    split at h
    · rename_i ws' e; cases h; exact ⟨rfl, e⟩
    · cases h
  | d x => cases h
  | scr => cases h
  | pack ws => cases h
  | fn => cases h
/-- o[i] = e -/
def sPut (e o i : EvE) : EvS := fun ρ M => (e ρ M).bind fun p => (o ρ p.2).bind fun q => (i ρ q.2).bind fun r => (asI r.1).bind fun k => (lstAt r.2 q.1).bind fun l =>
  (ixN l.2.length k).bind fun j => some (.nx ρ (r.2.set l.1 (.lst (l.2.set j p.1))))
/-- o.append(e) -/
def sApp (o e : EvE) : EvE := fun ρ M => (o ρ M).bind fun q => (lstAt q.2 q.1).bind fun _ => (e ρ q.2).bind fun p => (lstAt p.2 q.1).bind fun l => if l.2.length < sizeLine then some (.d .none, p.2.set l.1 (.lst (l.2 ++ [p.1]))) else none
section
variable {C : Ck} {X : Cx} {pos : Pos} {a b c e : Expr} {st : Stmt} {sts s2 : List Stmt} {fa : EvE} {fc : EvT} {ga gb : EvS} {fs : EvA} {is : List Nat}
theorem qs_nil : PSs X [] (tsOf C sNil) := pss_nil.weak fun D σ H ⟨ρ, φ, M, o, env, sim, e, q⟩ => by
  cases e
  exact q σ φ H (.refl sim) env
theorem seq_of {t u : TS} (h1 : ∀ D σ H, tsOf C ga D σ H -> t D σ H) (h2 : ∀ D σ H, tsOf C gb D σ H -> u D σ H) {D : Ends} {σ : L2.St} {H : Hp} (h : tsOf C (sSeq ga gb) D σ H) : tSeq t u D σ H := by
  obtain ⟨ρ, φ, M, o, env, sim, e, q⟩ := h
  obtain ⟨o1, e1, e⟩ := bsome e
  refine h1 _ _ _ ⟨ρ, φ, M, o1, env, sim, e1, ?_⟩
  cases o1 with
  | nx ρ1 M1 => exact fun σ1 φ1 H1 s1 env1 => h2 _ _ _ ⟨ρ1, φ1, M1, o, env1, s1.sim, e, q.step s1⟩
  | bk ρ1 M1 => cases e; exact q
  | ct ρ1 M1 => cases e; exact q
  | rt w M1 => cases e; exact q
theorem qs_cons (h1 : PS X st (tsOf C ga)) (h2 : PSs X sts (tsOf C gb)) : PSs X (st :: sts) (tsOf C (sSeq ga gb)) :=
  (pss_cons h1 h2).weak fun D σ H h => seq_of (fun _ _ _ z => z) (fun _ _ _ z => z) h
theorem qs_one (h1 : PS X st (tsOf C ga)) : PSs X [st] (tsOf C ga) := pss_one h1
theorem q_if (hc : PT X c (ttOf C fc)) (ha : PSs X sts (tsOf C ga)) (hb : PSs X s2 (tsOf C gb)) : PS X (.If c sts s2 pos) (tsOf C (sIf fc ga gb)) :=
  (ps_if hc ha hb).weak fun D σ H ⟨ρ, φ, M, o, env, sim, e, q⟩ => by
    obtain ⟨⟨k, M1⟩, e1, e⟩ := bsome e
    refine ⟨ρ, φ, M, k, M1, env, sim, e1, fun φ1 H1 s1 => ?_⟩
    cases k with
    | true => exact ⟨ρ, φ1, M1, o, env.step s1, s1.sim, e, q.step s1⟩
    | false => exact ⟨ρ, φ1, M1, o, env.step s1, s1.sim, e, q.step s1⟩
theorem q_ret (he : PE X e (tOf C fa)) : PS X (.Return (some e) pos) (tsOf C (sRet fa)) :=
  (ps_ret he).weak fun D σ H ⟨ρ, φ, M, o, env, sim, e, q⟩ => by
    obtain ⟨⟨x, M1⟩, e1, e⟩ := bsome e
    cases e
    exact ⟨ρ, φ, M, x, M1, env, sim, e1, q⟩
theorem set_of {i : Nat} {D : Ends} {σ : L2.St} {H : Hp} (h : tsOf C (sSet i fa) D σ H) : tAsg (tOf C fa) (gName i) D σ H := by
  obtain ⟨ρ, φ, M, o, env, sim, e, q⟩ := h
  obtain ⟨⟨x, M1⟩, e1, e⟩ := bsome e
  cases e
  exact ⟨ρ, φ, M, x, M1, env, sim, e1, fun v φ1 H1 s1 r1 => q _ φ1 H1 s1 ((env.step s1).set r1 i)⟩
theorem q_set {i : Nat} {x : Str} {pos' : Pos} (hN : X.N.Nodup) (hi : X.N[i]? = some x) (hx : Loc X.env.scope x) (he : PE X e (tOf C fa)) (hs : swapsWith e (some (.Name x pos')) pos.line X.env = pure false := by rfl) (hf : X.fn x = true ∨ X.env.scope.names.lookup x = some .local := by first | exact .inl rfl | exact .inr rfl | assumption) :
    PS X (.Assign [.Name x pos'] e pos) (tsOf C (sSet i fa)) := (ps_set hN hi hx he hs hf).weak fun _ _ _ h => set_of h
theorem q_asg {tg : Expr} {g : EvG} (he : PE X e (tOf C fa)) (hg : PG X tg (tgOf C is g)) (hs : swapsWithSole [tg] e pos.line X.env = pure false := by rfl) (hw : swappedStores [tg] e X.env = pure none := by rfl)
    (h1 : (assignEach [tg] X.env).map (·.2) = [assign tg X.env] := by rfl) : PS X (.Assign [tg] e pos) (tsOf C (sAsg fa g)) :=
  (ps_asg he hg hs hw h1).weak fun D σ H ⟨ρ, φ, M, o, env, sim, e, q⟩ => by
    obtain ⟨⟨x, M1⟩, e1, e⟩ := bsome e
    obtain ⟨ρ1, e2, e⟩ := bsome e
    cases e
    exact ⟨ρ, φ, M, x, M1, env, sim, e1, fun v φ1 H1 s1 r1 => ⟨ρ, φ1, M1, x, ρ1, env.step s1, s1.sim, r1, e2, fun σ1 env1 _ => q σ1 φ1 H1 s1 env1⟩⟩
theorem q_par {i j : Nat} {x y : Str} {px py pt : Pos} {kt k2 : Nat} {pt2 : Pos} (hc : X.calm = true) (hN : X.N.Nodup) (hi : X.N[i]? = some x) (hj : X.N[j]? = some y) (hij : i ≠ j)
    (hx : X.env.scope.names.lookup x = some .local) (hy : X.env.scope.names.lookup y = some .local) (ha : PA X [a, b] (taOf C fs))
    (hw : swappedStores [.Tuple [.Name x px, .Name y py] kt pt] (.Tuple [a, b] k2 pt2) X.env = pure (some [x, y]))
    (hs : swapsWithSole [.Tuple [.Name x px, .Name y py] kt pt] (.Tuple [a, b] k2 pt2) pos.line X.env = pure false := by rfl) :
    PS X (.Assign [.Tuple [.Name x px, .Name y py] kt pt] (.Tuple [a, b] k2 pt2) pos) (tsOf C (sPar i j fs)) :=
  (ps_par hc hN hi hj hij hx hy ha hw hs).weak fun D σ H ⟨ρ, φ, M, o, env, sim, e, q⟩ => by
    obtain ⟨⟨ws, M1⟩, e1, e⟩ := bsome e
    refine ⟨ρ, φ, M, ws, M1, env, sim, e1, fun vs φ1 H1 s1 r1 => ?_⟩
    simp only at e
    split at e
    · rename_i w1 w2
      cases e
      cases r1 with
      | cons r1 r => cases r with
        | cons r2 r => cases r; exact ⟨_, _, rfl, q _ φ1 H1 s1 (((env.step s1).set r1 i).set r2 j)⟩
    · cases e
theorem q_expr (he : PE X e (tOf C fa)) (hs : swapsWith e none pos.line X.env = pure false := by rfl) : PS X (.Expr e pos) (tsOf C (sExpr fa)) :=
  (ps_expr he hs).weak fun D σ H ⟨ρ, φ, M, o, env, sim, e, q⟩ => by
    obtain ⟨⟨x, M1⟩, e1, e⟩ := bsome e
    cases e
    exact ⟨ρ, φ, M, x, M1, env, sim, e1, fun v φ1 H1 s1 r1 => q _ φ1 H1 s1 (env.step s1)⟩
theorem q_put {fo fi fe : EvE} {o i : Expr} {po : Pos} (he : PE X e (tOf C fe)) (ho : PE X o (tOf C fo)) (hi : PE X i (tOf C fi)) (hg : PG X (.Subscript o i po) (gSub (tOf C fo) (tOf C fi) rSetL)) (hs : swapsWithSole [.Subscript o i po] e pos.line X.env = pure false := by rfl) (hw : swappedStores [.Subscript o i po] e X.env = pure none := by rfl)
    (h1 : (assignEach [.Subscript o i po] X.env).map (·.2) = [assign (.Subscript o i po) X.env] := by rfl) : PS X (.Assign [.Subscript o i po] e pos) (tsOf C (sPut fe fo fi)) :=
  (ps_asg he hg hs hw h1).weak fun D σ H ⟨ρ, φ, M, o, env, sim, e, q⟩ => by
    obtain ⟨⟨x, M1⟩, e1, e⟩ := bsome e
    obtain ⟨⟨y, M2⟩, e2, e⟩ := bsome e
    obtain ⟨⟨z, M3⟩, e3, e⟩ := bsome e
    obtain ⟨k, hk, e⟩ := bsome e
    obtain ⟨⟨l, ws⟩, hl, e⟩ := bsome e
    obtain ⟨j, hj, e⟩ := bsome e
    cases e
    obtain ⟨ey, el⟩ := lstAt_eq hl
    simp only at ey el hj
    have ez := asI_eq hk
    simp only at ez
    subst ey ez
    refine ⟨ρ, φ, M, x, M1, env, sim, e1, fun v φ1 H1 s1 r1 => ⟨ρ, φ1, M1, _, M2, env.step s1, s1.sim, e2, fun v2 φ2 H2 s2 r2 => ⟨ρ, φ2, M2, _, M3, (env.step s1).step s2, s2.sim, e3, fun v3 φ3 H3 s3 r3 => ?_⟩⟩⟩
    obtain ⟨rfl, _⟩ := (r2.step s3).isO
    obtain rfl := r3.isI
    obtain ⟨us, hu, ru⟩ := s3.sim.ob l _ el
    have rx := (r1.step s2).step s3
    refine ⟨φ3 l, us, k, j, rfl, rfl, hu, by rw [ru.length]; exact hj, ?_⟩
    have s4 := Step.set s3.sim el (RwAll.set rx j ru)
    have s5 := s1.trans (s2.trans (s3.trans s4))
    exact q _ φ3 _ s5 (env.step s5)
end
end Va
namespace Va
open PySem PySem.Spec PyProof.Rows L2 Sa
def Deps (deps : List (Nat × MO)) (M : Mem) : Prop := ∀ p ∈ deps, M[p.1]? = some p.2
@[simp] theorem Deps.nil {M : Mem} : Deps [] M := fun p h => by simp at h
@[simp] theorem Deps.one {i : Nat} {mo : MO} {M : Mem} : Deps [(i, mo)] M ↔ M[i]? = some mo := by simp [Deps]
/-- the walk gives these -/
def ItOk (C : Ck) (J : It) (items : List W) (deps : List (Nat × MO)) (φ0 : Nat -> Addr) (M0 : Mem) (H0 : Hp) : Prop :=
  ∀ φ M H, Step C φ0 M0 H0 φ M H -> Deps deps M ->
    (∀ (k : Nat) (w : W), items[k]? = some w -> J.go k H /\ ∀ x H', J.yld k H x H' -> Step C φ M H φ M H' /\ Rw C φ M.length H' x w) /\ J.stop items.length H
def tiOf (C : Ck) (fi : EvI) : TI := fun σ H R => ∃ ρ φ M s M', EnvR C φ M.length H σ ρ /\ Sim C φ M H /\ fi ρ M = some (s, M') /\
  ∀ J φ' H', Step C φ M H φ' M' H' -> ItOk C J s.1 s.2 φ' M' H' -> R J H'
theorem _root_.L2.PI.weak {X : Cx} {tg e : Expr} {t t' : TI} (h : PI X tg e t) (w : ∀ σ H R, t' σ H R -> t σ H R) : PI X tg e t' := ⟨fun pins s σ H R I q => h.run pins s σ H R I (w _ _ _ q)⟩
open Classical in
noncomputable def forL (deps : List (Nat × MO)) (g : EvG) (body : EvS) : List W -> Ev -> Mem -> Option Out
  | [], ρ, M => if Deps deps M then some (.nx ρ M) else none
  | w :: ws, ρ, M => if Deps deps M then (g w ρ).bind fun ρ1 => (body ρ1 M).bind fun o => match o with
    | .nx ρ2 M2 => forL deps g body ws ρ2 M2
    | .ct ρ2 M2 => forL deps g body ws ρ2 M2
    | .bk ρ2 M2 => some (.nx ρ2 M2)
    | .rt w M2 => some (.rt w M2)
    else none
noncomputable def sFor (fi : EvI) (g : EvG) (body : EvS) : EvS := fun ρ M => (fi ρ M).bind fun p => forL p.1.2 g body p.1.1 ρ p.2
section
variable {C : Ck} {X : Cx} {pos : Pos} {tg iter e : Expr} {body : List Stmt} {fi : EvI} {g : EvG} {gb : EvS} {is : List Nat}
theorem for_of {D : Ends} {σ : L2.St} {H : Hp} (h : tsOf C (sFor fi g gb) D σ H) : tFor (tiOf C fi) (tgOf C is g) (tsOf C gb) D σ H := by
  obtain ⟨ρ, φ, M, o, env, sim, e, q⟩ := h
  obtain ⟨⟨⟨items, deps⟩, M1⟩, e1, e⟩ := bsome e
  refine ⟨ρ, φ, M, _, M1, env, sim, e1, fun J φ1 H1 s1 ok => ?_⟩
  refine ⟨fun i m σ H => ∃ ρ φ M ws, m = ws.length /\ items.drop i = ws /\ i <= items.length /\ EnvR C φ M.length H σ ρ /\ Step C φ1 M1 H1 φ M H /\ forL deps g gb ws ρ M = some o,
    ⟨items.length, ρ, φ1, M1, items, rfl, rfl, Nat.zero_le _, env.step s1, .refl s1.sim, e⟩, ?_⟩
  intro i m σ2 H2 hw
  obtain ⟨ρ2, φ2, M2, ws, hm, hd, hi, env2, s2, e2⟩ := hw
  cases ws with
  | nil =>
    have hn : i = items.length := by
      have := congrArg List.length hd
      simp at this
      omega
    simp only [forL] at e2
    split at e2
    · rename_i dp
      cases e2
      refine .inl ⟨?_, q σ2 φ2 H2 (s1.trans s2) env2⟩
      rw [hn]
      exact (ok φ2 M2 H2 s2 dp).2
    · cases e2
  | cons w ws =>
    simp only [forL] at e2
    split at e2
    · rename_i dp
      obtain ⟨ρ3, e3, e2⟩ := bsome e2
      obtain ⟨o1, e4, e2⟩ := bsome e2
      have hk : items[i]? = some w := by
        have : (items.drop i)[0]? = some w := by rw [hd]; rfl
        simpa using this
      have hlt : i < items.length := (List.getElem?_eq_some_iff.mp hk).1
      have hd' : items.drop (i + 1) = ws := by
        rw [<- List.drop_drop, hd]; rfl
      obtain ⟨go, yl⟩ := (ok φ2 M2 H2 s2 dp).1 i w hk
      refine .inr ⟨go, fun σ' H' => ∃ ρ φ M, EnvR C φ M.length H' σ' ρ /\ Step C φ1 M1 H1 φ M H' /\ forL deps g gb ws ρ M = some o, fun σ' H' ⟨ρ, φ, M, h1, h2, h3⟩ => ⟨ws.length, ?_, ρ, φ, M, ws, rfl, hd', hlt, h1, h2, h3⟩, fun x H' hy => ?_⟩
      · rw [hm]; exact Nat.lt_succ_self _
      · obtain ⟨st, rx⟩ := yl x H' hy
        refine ⟨ρ2, φ2, M2, w, ρ3, env2.step st, st.sim, rx, e3, fun σ' env' _ => ⟨ρ3, φ2, M2, o1, env', st.sim, e4, ?_⟩⟩
        cases o1 with
        | nx ρ4 M4 => exact fun σ5 φ5 H5 s5 env5 => ⟨ρ4, φ5, M4, env5, s2.trans (st.trans s5), e2⟩
        | ct ρ4 M4 => exact fun σ5 φ5 H5 s5 env5 => ⟨ρ4, φ5, M4, env5, s2.trans (st.trans s5), e2⟩
        | bk ρ4 M4 => cases e2; exact fun σ5 φ5 H5 s5 env5 => q σ5 φ5 H5 (s1.trans (s2.trans (st.trans s5))) env5
        | rt w4 M4 => cases e2; exact fun σ5 φ5 H5 s5 env5 => q σ5 φ5 H5 (s1.trans (s2.trans (st.trans s5))) env5
    · cases e2
theorem q_for (hp : PassesOwn (model X.prog X.w) X.A X.env X.xe) (hc : X.calm = true) (hi : PI X tg iter (tiOf C fi)) (hg : PG X tg (tgOf C is g)) (hb : PSs X body (tsOf C gb))
    (hs : ∀ x, foldedSetIterable iter X.env x = pure x := by intro _; rfl) : PS X (.For tg iter body [] pos) (tsOf C (sFor fi g gb)) :=
  (ps_for hp hc hi hg hb hs).weak fun _ _ _ h => for_of h
def whN (c : EvT) (b : EvS) : Nat -> Ev -> Mem -> Option Out
  | 0, _, _ => none
  | k + 1, ρ, M => (c ρ M).bind fun p => if p.1 = true then (b ρ p.2).bind fun o => match o with
    | .nx ρ2 M2 => whN c b k ρ2 M2
    | .ct ρ2 M2 => whN c b k ρ2 M2
    | .bk ρ2 M2 => some (.nx ρ2 M2)
    | .rt w M2 => some (.rt w M2)
    else some (.nx ρ p.2)
theorem q_while (n : Nat) {c : Expr} {fc : EvT} (hp : PassesOwn (model X.prog X.w) X.A X.env X.xe) (hc : PT X c (ttOf C fc)) (hb : PSs X body (tsOf C gb)) : PS X (.While c body [] pos) (tsOf C (whN fc gb n)) :=
  (ps_while hp hc hb).weak fun D σ H0 ⟨ρ, φ, M, o, env, sim, e, q⟩ => by
    refine ⟨fun m σ H => ∃ ρ φ' M', EnvR C φ' M'.length H σ ρ /\ Step C φ M H0 φ' M' H /\ whN fc gb m ρ M' = some o, ⟨n, ρ, φ, M, env, .refl sim, e⟩, ?_⟩
    intro m σ2 H2 ⟨ρ2, φ2, M2, env2, s2, e2⟩
    cases m with
    | zero => cases e2
    | succ m =>
      obtain ⟨⟨k, M3⟩, e3, e2⟩ := bsome e2
      refine ⟨ρ2, φ2, M2, k, M3, env2, s2.sim, e3, fun φ3 H3 s3 => ?_⟩
      cases k with
      | false => cases e2; exact q σ2 φ3 H3 (s2.trans s3) (env2.step s3)
      | true =>
        obtain ⟨o1, e4, e2⟩ := bsome e2
        refine ⟨fun σ' H' => ∃ ρ φ' M', EnvR C φ' M'.length H' σ' ρ /\ Step C φ M H0 φ' M' H' /\ whN fc gb m ρ M' = some o, fun σ' H' h => ⟨m, Nat.lt_succ_self _, h⟩, ρ2, φ3, M3, o1, env2.step s3, s3.sim, e4, ?_⟩
        cases o1 with
        | nx ρ4 M4 => exact fun σ5 φ5 H5 s5 env5 => ⟨ρ4, φ5, M4, env5, s2.trans (s3.trans s5), e2⟩
        | ct ρ4 M4 => exact fun σ5 φ5 H5 s5 env5 => ⟨ρ4, φ5, M4, env5, s2.trans (s3.trans s5), e2⟩
        | bk ρ4 M4 => cases e2; exact fun σ5 φ5 H5 s5 env5 => q σ5 φ5 H5 (s2.trans (s3.trans s5)) env5
        | rt w4 M4 => cases e2; exact fun σ5 φ5 H5 s5 env5 => q σ5 φ5 H5 (s2.trans (s3.trans s5)) env5
def wipeW (ρ : Ev) : List Nat -> Ev
  | [] => ρ
  | v :: vs => (wipeW ρ vs).set v none
theorem EnvR.clear {φ : Nat -> Addr} {n : Nat} {H : Hp} {σ : L2.St} {ρ : Ev} (h : EnvR C φ n H σ ρ) (i : Nat) : EnvR C φ n H (σ.set i none) (ρ.set i none) := by
  refine ⟨by simp [h.1], fun j w hj => ?_⟩
  by_cases z : i = j
  · subst z
    by_cases hl : i < ρ.length
    · rw [List.getElem?_set_self hl] at hj; cases hj
    · rw [List.getElem?_eq_none (by simpa using Nat.le_of_not_lt hl)] at hj; cases hj
  · rw [List.getElem?_set_ne z] at hj
    obtain ⟨v, h1, h2⟩ := h.2 j w hj
    exact ⟨v, by rw [List.getElem?_set_ne z]; exact h1, h2⟩
theorem EnvR.wipe {φ : Nat -> Addr} {n : Nat} {H : Hp} {σ : L2.St} {ρ : Ev} (h : EnvR C φ n H σ ρ) : ∀ vs, EnvR C φ n H (wipe σ vs) (wipeW ρ vs)
  | [] => h
  | v :: vs => (EnvR.wipe h vs).clear v
theorem wipe_get (σ : L2.St) (i : Nat) : ∀ vs, (wipe σ vs)[i]? = if i ∈ vs then (if i < σ.length then some none else none) else σ[i]?
  | [] => by simp [wipe]
  | v :: vs => by
    have ih := wipe_get σ i vs
    have hl := wipe_length σ vs
    show ((wipe σ vs).set v none)[i]? = _
    by_cases z : v = i
    · subst z
      by_cases hl2 : v < σ.length
      · rw [List.getElem?_set_self (by rw [hl]; exact hl2)]
        simp [hl2]
      · rw [List.getElem?_eq_none (by simp [hl]; omega)]
        simp [hl2]
    · rw [List.getElem?_set_ne z, ih]
      have : (i ∈ v :: vs) ↔ i ∈ vs := by simp [Ne.symm z]
      simp only [this]
theorem wipe_only {vs : List Nat} {σ σ2 : L2.St} (hv : ∀ i ∈ is, i ∈ vs) (h : Only is (wipe σ vs) σ2) : wipe σ2 vs = wipe σ vs := by
  refine List.ext_getElem? fun i => ?_
  have l2 : σ2.length = σ.length := h.1.trans (wipe_length σ vs)
  rw [wipe_get, wipe_get, l2]
  by_cases z : i ∈ vs
  · simp [z]
  · have := h.2 i fun q => z (hv i q)
    rw [this, wipe_get]
    simp [z]
open Classical in
noncomputable def lcL (deps : List (Nat × MO)) (g : EvG) (t : EvT) (e : EvE) (ρ0 : Ev) (n : Nat) : List W -> Mem -> Option Mem
  | [], M => if Deps deps M then some M else none
  | w :: ws, M => if Deps deps M then (g w ρ0).bind fun ρ1 => (t ρ1 M).bind fun p => if p.1 = true then (e ρ1 p.2).bind fun y => (lstAt y.2 (.obj n)).bind fun l =>
      if l.2.length < sizeLine then lcL deps g t e ρ0 n ws (y.2.set n (.lst (l.2 ++ [y.1]))) else none
    else lcL deps g t e ρ0 n ws p.2 else none
noncomputable def eLc (fi : EvI) (g : EvG) (t : EvT) (e : EvE) (vs : List Nat) : EvE := fun ρ M => (fi ρ M).bind fun p =>
  (lcL p.1.2 g t e (wipeW ρ vs) p.2.length p.1.1 (p.2 ++ [.lst []])).bind fun M' => some (.obj p.2.length, M')
def tTrue : EvT := fun _ M => some (true, M)
theorem lc_of {ft : EvT} {fe : EvE} {vs : List Nat} (hv : ∀ i ∈ is, i ∈ vs) {σ : L2.St} {H : Hp} {Q : VK} (h : tOf C (eLc fi g ft fe vs) σ H Q) : tLc (tiOf C fi) (tgOf C is g) (ttOf C ft) (tOf C fe) vs σ H Q := by
  obtain ⟨ρ, φ, M, w, M', env, sim, e, q⟩ := h
  obtain ⟨⟨⟨items, deps⟩, M1⟩, e1, e⟩ := bsome e
  obtain ⟨Mz, e2, e⟩ := bsome e
  cases e
  refine ⟨ρ, φ, M, _, M1, env, sim, e1, fun J φ1 H1 s1 ok D nD => ?_⟩
  have s2 := Step.list (vs := []) (ws := []) s1.sim nD .nil
  generalize hφ : phi φ1 M1.length D = φ2 at s2
  have hD : φ2 M1.length = D := by rw [<- hφ]; exact phi_at
  refine ⟨fun i m Hx => ∃ φ M ws, m = ws.length /\ items.drop i = ws /\ i <= items.length /\ Step C φ2 (M1 ++ [.lst []]) (upd H1 D (.lst [])) φ M Hx /\ lcL deps g ft fe (wipeW ρ vs) M1.length ws M = some M',
    ⟨items.length, φ2, _, items, rfl, rfl, Nat.zero_le _, .refl s2.sim, e2⟩, ?_⟩
  intro i m Hx ⟨φ3, M3, ws, hm, hd, hi, s3, e3⟩
  have s13 : Step C φ1 M1 H1 φ3 M3 Hx := s2.trans s3
  have s03 : Step C φ M H φ3 M3 Hx := s1.trans s13
  have lt3 : M1.length < M3.length := by have := s3.le; simp at this; omega
  have at3 : φ3 M1.length = D := by rw [s3.ext M1.length (by simp)]; exact hD
  cases ws with
  | nil =>
    have hn : i = items.length := by
      have := congrArg List.length hd
      simp at this
      omega
    simp only [lcL] at e3
    split at e3
    · rename_i dp
      cases e3
      refine .inl ⟨by rw [hn]; exact (ok φ3 M' Hx s13 dp).2, q _ φ3 Hx s03 ?_⟩
      rw [<- at3]
      exact .obj lt3
    · cases e3
  | cons w ws =>
    simp only [lcL] at e3
    split at e3
    · rename_i dp
      obtain ⟨ρ4, e4, e3⟩ := bsome e3
      obtain ⟨⟨k, M5⟩, e5, e3⟩ := bsome e3
      have hk : items[i]? = some w := by
        have : (items.drop i)[0]? = some w := by rw [hd]; rfl
        simpa using this
      have hlt : i < items.length := (List.getElem?_eq_some_iff.mp hk).1
      have hd' : items.drop (i + 1) = ws := by
        rw [<- List.drop_drop, hd]; rfl
      obtain ⟨go, yl⟩ := (ok φ3 M3 Hx s13 dp).1 i w hk
      refine .inr ⟨go, fun H' => ∃ φ M, Step C φ2 (M1 ++ [.lst []]) (upd H1 D (.lst [])) φ M H' /\ lcL deps g ft fe (wipeW ρ vs) M1.length ws M = some M', fun H' ⟨φ, M, h1, h2⟩ => ⟨ws.length, by rw [hm]; exact Nat.lt_succ_self _, φ, M, ws, rfl, hd', hlt, h1, h2⟩, fun x H' hy => ?_⟩
      obtain ⟨st, rx⟩ := yl x H' hy
      have s0 : Step C φ M H φ3 M3 H' := s03.trans st
      refine ⟨wipeW ρ vs, φ3, M3, w, ρ4, (env.step s0).wipe vs, st.sim, rx, e4, fun σ4 env4 on4 => ⟨wipe_only hv on4, ρ4, φ3, M3, k, M5, env4, st.sim, e5, fun φ5 H5 s5 => ?_⟩⟩
      cases k with
      | false => exact ⟨φ5, M5, s3.trans (st.trans s5), e3⟩
      | true =>
        obtain ⟨⟨y, M6⟩, e6, e3⟩ := bsome e3
        obtain ⟨⟨l, acc⟩, hl, e3⟩ := bsome e3
        obtain ⟨el, hacc⟩ := lstAt_eq hl
        cases el
        split at e3
        · rename_i small
          refine ⟨ρ4, φ5, M5, y, M6, env4.step s5, s5.sim, e6, fun v φ6 H6 s6 r6 => ?_⟩
          have s26 := s3.trans (st.trans (s5.trans s6))
          obtain ⟨us, hu, ru⟩ := s6.sim.ob _ _ hacc
          have at6 : φ6 M1.length = D := by rw [s26.ext M1.length (by simp)]; exact hD
          rw [at6] at hu
          refine ⟨us, hu, by rw [ru.length]; exact small, φ6, _, s26.trans ?_, e3⟩
          have := Step.set s6.sim hacc (ru.append (.cons r6 .nil))
          rw [at6] at this
          exact this
        · cases e3
    · cases e3
theorem qts_nil : PTs X [] (ttOf C tTrue) := ⟨fun pins s σ H Q I ⟨ρ, φ, M, b, M', env, sim, e, q⟩ => by
  cases e
  exact pts_nil.run pins s σ H Q I (q φ H (.refl sim))⟩
theorem qts_one {c : Expr} {t : EvT} (h : PT X c (ttOf C t)) : PTs X [c] (ttOf C t) := pts_one h
section
variable {elt : Expr} {ifs : List Expr} {scope : Scope} {own : List (Str × Nat)} {ft : EvT} {fe : EvE}
theorem q_lc (hc : X.calm = true) (hN : X.N.Nodup) (hi : PI X tg iter (tiOf C fi)) (ok : BlkOk X.N X.env.scope scope own) (hv : ∀ i ∈ is, i ∈ own.map (·.2))
    (hg : ∀ (s : Shared) (H : Hp) (D : Addr) (cl : List (Str × Addr)) (fp : List Addr), PG (X.blk s H scope (compEnvC scope cl D X.env) fp) tg (tgOf C is g)) (ht : ∀ (s : Shared) (H : Hp) (D : Addr) (cl : List (Str × Addr)) (fp : List Addr), PTs (X.blk s H scope (compEnvC scope cl D X.env) fp) ifs (ttOf C ft))
    (he : ∀ (s : Shared) (H : Hp) (D : Addr) (cl : List (Str × Addr)) (fp : List Addr), PE (X.blk s H scope (compEnvC scope cl D X.env) fp) elt (tOf C fe)) (hs : ∀ x, foldedSetIterable iter X.env x = pure x := by intro _; rfl) :
    PE X (.ListComp elt [⟨tg, iter, ifs, 0⟩] scope pos) (tOf C (eLc fi g ft fe (own.map (·.2)))) :=
  (pe_lc hc hN hi ok hg ht he hs).weak fun _ _ _ h => lc_of hv h
theorem q_setLc {i : Nat} {y : Str} {py spos : Pos} (hc : X.calm = true) (hN : X.N.Nodup) (hy : X.N[i]? = some y) (hyl : X.env.scope.names.lookup y = some .local)
    (hsw : swapsWith (.ListComp elt [⟨tg, iter, ifs, 0⟩] scope pos) (some (.Name y py)) spos.line X.env = pure true) (hi : PI X tg iter (tiOf C fi)) (ok : BlkOk X.N X.env.scope scope own) (hv : ∀ i ∈ is, i ∈ own.map (·.2))
    (hg : ∀ (s : Shared) (H : Hp) (D : Addr) (cl : List (Str × Addr)) (fp : List Addr), PG (X.blk s H scope (compEnvC scope cl D X.env) fp) tg (tgOf C is g)) (ht : ∀ (s : Shared) (H : Hp) (D : Addr) (cl : List (Str × Addr)) (fp : List Addr), PTs (X.blk s H scope (compEnvC scope cl D X.env) fp) ifs (ttOf C ft))
    (he : ∀ (s : Shared) (H : Hp) (D : Addr) (cl : List (Str × Addr)) (fp : List Addr), PE (X.blk s H scope (compEnvC scope cl D X.env) fp) elt (tOf C fe)) (hs : ∀ x, foldedSetIterable iter X.env x = pure x := by intro _; rfl) :
    PS X (.Assign [.Name y py] (.ListComp elt [⟨tg, iter, ifs, 0⟩] scope pos) spos) (tsOf C (sSet i (eLc fi g ft fe (own.map (·.2))))) :=
  (ps_setLc hc hN hy hyl hsw hi ok hg ht he hs).weak fun D σ H ⟨ρ, φ, M, o, env, sim, e, q⟩ => by
    obtain ⟨⟨x, M1⟩, e1, e⟩ := bsome e
    cases e
    exact lc_of hv ⟨ρ, φ, M, x, M1, env, sim, e1, fun v φ1 H1 s1 r1 => q _ φ1 H1 s1 ((env.step s1).set r1 i)⟩
end
end
end Va
namespace Va
open PySem PySem.Spec PyProof.Rows L2 Sa
def oI (g : Int -> Int -> PyData) : O2 := fun a b M => (asI a).bind fun i => (asI b).bind fun j => some (.d (g i j), M)
open Classical in
noncomputable def oIc (c : Int -> Int -> Prop) (g : Int -> Int -> PyData) : O2 := fun a b M => (asI a).bind fun i => (asI b).bind fun j => if c i j then some (.d (g i j), M) else none
def oU (g : Int -> PyData) : O1 := fun a M => (asI a).bind fun i => some (.d (g i), M)
section
variable {C : Ck}
theorem vo_I {g : Int -> Int -> V} {g' : Int -> Int -> PyData} (h : ∀ K H i j, Rp K H (g i j) (g' i j)) : VO2 C (rI0 g) (oI g') := by
  intro φ M H x y a b w M' Q sim rx ry e q
  obtain ⟨i, ei, e⟩ := bsome e
  obtain ⟨j, ej, e⟩ := bsome e
  cases e
  rw [asI_eq ei] at rx
  rw [asI_eq ej] at ry
  obtain rfl := rx.isI
  obtain rfl := ry.isI
  exact ⟨i, j, rfl, rfl, q _ φ H (.refl sim) (.d (h _ _ _ _))⟩
theorem vo_Ic {c : Int -> Int -> Prop} {g : Int -> Int -> V} {g' : Int -> Int -> PyData} (h : ∀ K H i j, Rp K H (g i j) (g' i j)) : VO2 C (rI c g) (oIc c g') := by
  intro φ M H x y a b w M' Q sim rx ry e q
  obtain ⟨i, ei, e⟩ := bsome e
  obtain ⟨j, ej, e⟩ := bsome e
  split at e
  · rename_i hc
    cases e
    rw [asI_eq ei] at rx
    rw [asI_eq ej] at ry
    obtain rfl := rx.isI
    obtain rfl := ry.isI
    exact ⟨i, j, rfl, rfl, hc, q _ φ H (.refl sim) (.d (h _ _ _ _))⟩
  · cases e
abbrev oAdd : O2 := oI fun i j => .int (i + j)
abbrev oSub : O2 := oI fun i j => .int (i - j)
noncomputable abbrev oMul : O2 := oIc CMul fun i j => .int (i * j)
noncomputable abbrev oDiv : O2 := oIc CDivW fun i j => .int (i / j)
noncomputable abbrev oMod : O2 := oIc (fun _ j => 0 < j) fun i j => .int (i % j)
noncomputable abbrev oPow : O2 := oIc CPow fun i j => .int (i ^ j.toNat)
abbrev oLt : O2 := oI fun i j => .bool (decide (i < j))
abbrev oLe : O2 := oI fun i j => .bool (decide (i <= j))
abbrev oGt : O2 := oI fun i j => .bool (decide (j < i))
abbrev oGe : O2 := oI fun i j => .bool (decide (j <= i))
abbrev oNeg : O1 := oU fun i => .int (-i)
theorem vo_add : VO2 C (rI0 fun i j => .int (i + j)) oAdd := vo_I fun _ _ _ _ => .int _
theorem vo_sub : VO2 C (rI0 fun i j => .int (i - j)) oSub := vo_I fun _ _ _ _ => .int _
theorem vo_mul : VO2 C (rI CMul fun i j => .int (i * j)) oMul := vo_Ic fun _ _ _ _ => .int _
theorem vo_div : VO2 C (rI CDivW fun i j => .int (i / j)) oDiv := vo_Ic fun _ _ _ _ => .int _
theorem vo_mod : VO2 C (rI (fun _ j => 0 < j) fun i j => .int (i % j)) oMod := vo_Ic fun _ _ _ _ => .int _
theorem vo_pow : VO2 C (rI CPow fun i j => .int (i ^ j.toNat)) oPow := vo_Ic fun _ _ _ _ => .int _
theorem vo_lt : VO2 C (rI0 fun i j => .bl (decide (i < j))) oLt := vo_I fun _ _ _ _ => .bl _
theorem vo_le : VO2 C (rI0 fun i j => .bl (decide (i <= j))) oLe := vo_I fun _ _ _ _ => .bl _
theorem vo_gt : VO2 C (rI0 fun i j => .bl (decide (j < i))) oGt := vo_I fun _ _ _ _ => .bl _
theorem vo_ge : VO2 C (rI0 fun i j => .bl (decide (j <= i))) oGe := vo_I fun _ _ _ _ => .bl _
theorem vu_neg : VO1 C (rU fun i => .int (-i)) oNeg := by
  intro φ M H x a w M' Q sim rx e q
  obtain ⟨i, ei, e⟩ := bsome e
  cases e
  rw [asI_eq ei] at rx
  obtain rfl := rx.isI
  exact ⟨i, rfl, q _ φ H (.refl sim) (.d (.int _))⟩
def eqD : PyData -> PyData -> Option Bool
  | .int i, .int j => some (decide (i = j))
  | .str x, .str y => some (decide (x = y))
  | .bool x, .bool y => some (decide (x = y))
  | .tuple xs, .tuple ys => if (SeqAt.shaped (.tuple xs) && SeqAt.shaped (.tuple ys)) = true then some (PyData.eqv (.tuple xs) (.tuple ys)) else none
  | _, _ => none
def oEq : O2 := fun a b M => match a, b with
  | .d x, .d y => (eqD x y).map fun k => (.d (.bool k), M)
  | _, _ => none
def oNe : O2 := fun a b M => match a, b with
  | .d x, .d y => (eqD x y).map fun k => (.d (.bool (!k)), M)
  | _, _ => none
theorem dInt (x y : Int) : decide (V.int x = V.int y) = decide (x = y) := by simp
theorem dStr (x y : Str) : decide (V.str x = V.str y) = decide (x = y) := by simp
theorem dBl (x y : Bool) : decide (V.bl x = V.bl y) = decide (x = y) := by simp
theorem eq_both {K : PySem.W.Frag} {H : Hp} {v u : V} {x y : PyData} {k : Bool} (rx : Rp K H v x) (ry : Rp K H u y) (e : eqD x y = some k) (Q : Bool -> Prop) (q : Q k) :
    (scal v u = true /\ Q (decide (v = u))) ∨ (∃ d e, Dp K H v d /\ Dp K H u e /\ SeqAt.shaped d = true /\ SeqAt.shaped e = true /\ Q (PyData.eqv d e)) := by
  cases rx with
  | non => cases ry <;> simp [eqD] at e
  | bl b => cases ry with
    | bl c => simp only [eqD, Option.some.injEq] at e; exact .inl ⟨rfl, by rw [dBl, e]; exact q⟩
    | _ => simp [eqD] at e
  | int b => cases ry with
    | int c => simp only [eqD, Option.some.injEq] at e; exact .inl ⟨rfl, by rw [dInt, e]; exact q⟩
    | _ => simp [eqD] at e
  | str b => cases ry with
    | str c => simp only [eqD, Option.some.injEq] at e; exact .inl ⟨rfl, by rw [dStr, e]; exact q⟩
    | _ => simp [eqD] at e
  | tup s r => cases ry with
    | tup s2 r2 =>
      simp only [eqD] at e
      split at e
      · rename_i hs
        cases e
        rw [Bool.and_eq_true] at hs
        exact .inr ⟨_, _, (Rp.tup s r).dp, (Rp.tup s2 r2).dp, hs.1, hs.2, q⟩
      · cases e
    | _ => simp [eqD] at e
theorem vo_eq : VO2 C (fun x y H Q => rEq x y H Q ∨ rEqD C.K x y H Q) oEq := by
  intro φ M H x y a b w M' Q sim rx ry e q
  cases rx with
  | d rx => cases ry with
    | d ry =>
      simp only [oEq, Option.map_eq_some_iff] at e
      obtain ⟨k, ek, e⟩ := e
      cases e
      exact eq_both rx ry ek (fun k => Q (.bl k) H) (q _ φ H (.refl sim) (.d (.bl _)))
    | _ => simp [oEq] at e
  | _ => simp [oEq] at e
theorem vo_ne : VO2 C (fun x y H Q => rNe x y H Q ∨ rNeD C.K x y H Q) oNe := by
  intro φ M H x y a b w M' Q sim rx ry e q
  cases rx with
  | d rx => cases ry with
    | d ry =>
      simp only [oNe, Option.map_eq_some_iff] at e
      obtain ⟨k, ek, e⟩ := e
      cases e
      exact eq_both rx ry ek (fun k => Q (.bl (!k)) H) (q _ φ H (.refl sim) (.d (.bl _)))
    | _ => simp [oNe] at e
  | _ => simp [oNe] at e
def seqOf (M : Mem) (w : W) : Option (List W) := match w with
  | .obj i => match M[i]? with
    | some (.lst ws) => some ws
    | _ => none
  | w => tupOf w
theorem seq_cases {φ : Nat -> Addr} {M : Mem} {H : Hp} {v : V} {w : W} {ws : List W} (sim : Sim C φ M H) (r : Rw C φ M.length H v w) (e : seqOf M w = some ws) :
    ∃ a vs, v = .ref a /\ (SqL C.K H a vs ∨ SqT C.K H a vs) /\ RwAll C φ M.length H vs ws := by
  cases r with
  | obj h =>
    simp only [seqOf] at e
    split at e
    · rename_i ws' he
      cases e
      obtain ⟨vs, hv, r⟩ := sim.ob _ _ he
      exact ⟨_, vs, rfl, .inl (SqL.of hv), r⟩
    · cases e
  | d r =>
    obtain ⟨a, vs, rfl, s, r⟩ := (Rw.d (φ := φ) (n := M.length) r).un e
    exact ⟨a, vs, rfl, .inr s, r⟩
  | scr => cases e
  | pack s r => cases e; exact ⟨_, _, rfl, .inr s, r⟩
  | fn h => cases e
def oIx : O2 := fun a b M => (asI b).bind fun i => (seqOf M a).bind fun ws => (atI ws i).bind fun w => some (w, M)
theorem atI_rel {φ : Nat -> Addr} {n : Nat} {H : Hp} {vs : List V} {ws : List W} (r : RwAll C φ n H vs ws) {i : Int} {w : W} (e : atI ws i = some w) : ∃ v, atI vs i = some v /\ Rw C φ n H v w := by
  unfold atI at e ⊢
  obtain ⟨j, hj, e⟩ := bsome e
  obtain ⟨v, h1, h2⟩ := r.get e
  exact ⟨v, by rw [r.length, hj]; exact h1, h2⟩
theorem vo_ix : VO2 C (fun x y H Q => rIxL C.K x y H Q ∨ rIxT C.K x y H Q) oIx := by
  intro φ M H x y a b w M' Q sim rx ry e q
  obtain ⟨i, ei, e⟩ := bsome e
  obtain ⟨ws, es, e⟩ := bsome e
  obtain ⟨w2, ew, e⟩ := bsome e
  cases e
  rw [asI_eq ei] at ry
  obtain rfl := ry.isI
  obtain ⟨ad, vs, rfl, sq, r⟩ := seq_cases sim rx es
  obtain ⟨v, hv, rv⟩ := atI_rel r ew
  rcases sq with sq | sq
  · exact .inl ⟨ad, vs, i, v, rfl, rfl, sq, hv, q v φ H (.refl sim) rv⟩
  · exact .inr ⟨ad, vs, i, v, rfl, rfl, sq, hv, q v φ H (.refl sim) rv⟩
/-- the script's item -/
def oIxS (ns : List Int) : O2 := fun a b M => match a with
  | .scr => (asI b).bind fun i => (atI ns i).bind fun w => some (.d (.int w), M)
  | _ => none
theorem atI_map {α β : Type} (f : α -> β) (xs : List α) (i : Int) : atI (xs.map f) i = (atI xs i).map f := by
  unfold atI
  rw [List.length_map]
  cases ixN xs.length i with
  | none => rfl
  | some j => simp
theorem vo_ixS : VO2 C (fun x y H Q => rIxL C.K x y H Q ∨ rIxT C.K x y H Q) (oIxS C.ns) := by
  intro φ M H x y a b w M' Q sim rx ry e q
  cases rx with
  | scr =>
    obtain ⟨i, ei, e⟩ := bsome e
    obtain ⟨n, en, e⟩ := bsome e
    cases e
    rw [asI_eq ei] at ry
    obtain rfl := ry.isI
    exact .inl ⟨_, _, i, .int n, rfl, rfl, sim.scr.sq, by rw [atI_map, en]; rfl, q _ φ H (.refl sim) (.d (.int _))⟩
  | _ => simp [oIxS] at e
def cutG {α : Type} (xs : List α) (lo hi : Option Int) : List α := (xs.drop (HT.sIx xs.length 0 lo)).take (HT.sIx xs.length xs.length hi - HT.sIx xs.length 0 lo)
theorem cut_rel {φ : Nat -> Addr} {n : Nat} {H : Hp} {vs : List V} {ws : List W} (r : RwAll C φ n H vs ws) (lo hi : Option Int) : RwAll C φ n H (cutV vs lo hi) (cutG ws lo hi) := by
  unfold cutV cutG
  rw [r.length]
  exact (r.drop _).take _
end
/-- a part of a slice: a written number, or none -/
def poOf (C : Ck) (o : Option Int) : TO := fun σ H Q => Q o H
def eSlT (lo hi : Option Int) (a : EvE) : EvE := fun ρ M => (a ρ M).bind fun p => (tupOf p.1).bind fun ws => some (mkTup (cutG ws lo hi), p.2)
def eSlS (ns : List Int) (lo hi : Option Int) (a : EvE) : EvE := fun ρ M => (a ρ M).bind fun p => match p.1 with
  | .scr => some (.obj p.2.length, p.2 ++ [.lst ((cutG ns lo hi).map fun i => .d (.int i))])
  | _ => none
def eRev (a : EvE) : EvE := fun ρ M => (a ρ M).bind fun p => (tupOf p.1).bind fun ws => some (mkTup ws.reverse, p.2)
section
variable {C : Ck} {X : Cx} {a b e : Expr} {lo hi : Option Expr} {fa fb : EvE} {pos p2 : Pos} {l u : Option Int}
theorem q_ix (hK : X.K = C.K) (ha : PE X a (tOf C fa)) (hb : PE X b (tOf C fb)) (hs : PlainIx b) : PE X (.Subscript a b pos) (tOf C (eOp oIx fa fb)) :=
  (pe_ix (ix_list.or ix_tup) ha hb hs).weak fun σ H Q h => two_of (by rw [hK]; exact vo_ix) h
theorem q_ixS (hK : X.K = C.K) (ha : PE X a (tOf C fa)) (hb : PE X b (tOf C fb)) (hs : PlainIx b) : PE X (.Subscript a b pos) (tOf C (eOp (oIxS C.ns) fa fb)) :=
  (pe_ix (ix_list.or ix_tup) ha hb hs).weak fun σ H Q h => two_of (by rw [hK]; exact vo_ixS) h
theorem qo_none : PO X none (poOf C none) := ⟨fun pins s σ H Q I h => po_none.run pins s σ H Q I h⟩
theorem qo_int {i : Int} {j : Nat} {p : Pos} : PO X (some (.Constant (.int i) j p)) (poOf C (some i)) := ⟨fun pins s σ H Q I h => (po_some pe_int).run pins s σ H Q I ⟨i, rfl, h⟩⟩
theorem q_slT (hK : X.K = C.K) (he : PE X e (tOf C fa)) (hl : PO X lo (poOf C l)) (hu : PO X hi (poOf C u)) : PE X (.Subscript e (.Slice lo hi none p2) pos) (tOf C (eSlT l u fa)) :=
  (pe_slice sl_tupA he hl hu).weak fun σ H Q ⟨ρ, φ, M, w, M', env, sim, e, q⟩ => by
    obtain ⟨⟨x, M1⟩, e1, e⟩ := bsome e
    obtain ⟨ws, ew, e⟩ := bsome e
    cases e
    refine ⟨ρ, φ, M, x, _, env, sim, e1, fun v φ1 H1 s1 r1 => ?_⟩
    obtain ⟨ad, vs, rfl, sq, r⟩ := r1.un ew
    refine ⟨ad, vs, rfl, by rw [hK]; exact sq, fun h => ?_, fun h p np => ?_⟩
    · have hc : cutG ws l u = ws := by
        unfold cutG
        rw [<- r.length, h.1, h.2]
        simp [r.length]
      refine q _ φ1 H1 s1 ?_
      rw [hc]
      exact .tup sq r
    · have s2 := Step.tup (o := .tup (cutV vs l u)) s1.sim np
      exact q _ φ1 _ (s1.trans s2) (.tup (SqT.of upd_same) ((cut_rel r l u).step s2))
theorem q_rev {k : Nat} {p1 p3 p4 : Pos} (hK : X.K = C.K) (he : PE X e (tOf C fa)) : PE X (.Subscript e (.Slice none none (some (.UnaryOp .USub (.Constant (.int 1) k p1) p4)) p3) pos) (tOf C (eRev fa)) :=
  (pe_revT he).weak fun σ H Q ⟨ρ, φ, M, w, M', env, sim, e, q⟩ => by
    obtain ⟨⟨x, M1⟩, e1, e⟩ := bsome e
    obtain ⟨ws, ew, e⟩ := bsome e
    cases e
    refine ⟨ρ, φ, M, x, _, env, sim, e1, fun v φ1 H1 s1 r1 => ?_⟩
    obtain ⟨ad, vs, rfl, sq, r⟩ := r1.un ew
    refine ⟨ad, vs, rfl, by rw [hK]; exact sq, fun p np => ?_⟩
    have s2 := Step.tup (o := .tup vs.reverse) s1.sim np
    exact q _ φ1 _ (s1.trans s2) (.tup (SqT.of upd_same) (r.reverse.step s2))
end
end Va
namespace Va
open PySem PySem.Spec PyProof.Rows L2 Sa
section
variable {C : Ck}
def fLen : Fn := fun as M => match as with
  | [a] => (seqOf M a).bind fun ws => some (.d (.int ws.length), M)
  | _ => none
def fLenS (ns : List Int) : Fn := fun as M => match as with
  | [.scr] => some (.d (.int ns.length), M)
  | _ => none
def fAbs : Fn := fun as M => match as with
  | [.d (.int i)] => some (.d (.int (if i < 0 then -i else i)), M)
  | _ => none
def fMax2 : Fn := fun as M => match as with
  | [.d (.int i), .d (.int j)] => some (.d (.int (if j > i then j else i)), M)
  | _ => none
def fMin2 : Fn := fun as M => match as with
  | [.d (.int i), .d (.int j)] => some (.d (.int (if j < i then j else i)), M)
  | _ => none
def fInt : Fn := fun as M => match as with
  | [.d (.int i)] => some (.d (.int i), M)
  | [.d (.bool k)] => some (.d (.int (if k then 1 else 0)), M)
  | _ => none
def fTuple : Fn := fun as M => match as with
  | [.obj i] => (lstAt M (.obj i)).bind fun l => some (mkTup l.2, M)
  | [a] => (tupOf a).bind fun ws => some (mkTup ws, M)
  | _ => none
theorem two_args {φ : Nat -> Addr} {n : Nat} {H : Hp} {xs : List V} {a b : W} (r : RwAll C φ n H xs [a, b]) : ∃ x y, xs = [x, y] /\ Rw C φ n H x a /\ Rw C φ n H y b := by
  cases r with | cons r1 r => cases r with | cons r2 r => cases r; exact ⟨_, _, rfl, r1, r2⟩
theorem one_arg {φ : Nat -> Addr} {n : Nat} {H : Hp} {xs : List V} {a : W} (r : RwAll C φ n H xs [a]) : ∃ x, xs = [x] /\ Rw C φ n H x a := by
  cases r with | cons r1 r => cases r; exact ⟨_, rfl, r1⟩
theorem vc_len : VC C (fun xs H Q => ∃ p ys, xs = [.ref p] /\ (SqL C.K H p ys ∨ SqT C.K H p ys) /\ Q (.int ys.length) H) fLen := by
  intro φ M H xs as w M' Q sim r e q
  unfold fLen at e
  split at e
  · obtain ⟨ws, es, e⟩ := bsome e
    cases e
    obtain ⟨x, rfl, r1⟩ := one_arg r
    obtain ⟨a, vs, rfl, sq, r2⟩ := seq_cases sim r1 es
    refine ⟨a, vs, rfl, sq, q _ φ H (.refl sim) ?_⟩
    rw [r2.length]
    exact .d (.int _)
  · cases e
theorem vc_lenS : VC C (fun xs H Q => ∃ p ys, xs = [.ref p] /\ (SqL C.K H p ys ∨ SqT C.K H p ys) /\ Q (.int ys.length) H) (fLenS C.ns) := by
  intro φ M H xs as w M' Q sim r e q
  unfold fLenS at e
  split at e
  · cases e
    obtain ⟨x, rfl, r1⟩ := one_arg r
    cases r1
    refine ⟨_, _, rfl, .inl sim.scr.sq, q _ φ H (.refl sim) ?_⟩
    rw [List.length_map]
    exact .d (.int _)
  · cases e
theorem vc_abs : VC C (fun xs H Q => ∃ i, xs = [.int i] /\ Q (.int (if i < 0 then -i else i)) H) fAbs := by
  intro φ M H xs as w M' Q sim r e q
  unfold fAbs at e
  split at e
  · cases e
    obtain ⟨x, rfl, r1⟩ := one_arg r
    obtain rfl := r1.isI
    exact ⟨_, rfl, q _ φ H (.refl sim) (.d (.int _))⟩
  · cases e
theorem vc_max2 : VC C (fun xs H Q => ∃ i j, xs = [.int i, .int j] /\ Q (.int (if j > i then j else i)) H) fMax2 := by
  intro φ M H xs as w M' Q sim r e q
  unfold fMax2 at e
  split at e
  · cases e
    obtain ⟨x, y, rfl, r1, r2⟩ := two_args r
    obtain rfl := r1.isI
    obtain rfl := r2.isI
    exact ⟨_, _, rfl, q _ φ H (.refl sim) (.d (.int _))⟩
  · cases e
theorem vc_min2 : VC C (fun xs H Q => ∃ i j, xs = [.int i, .int j] /\ Q (.int (if j < i then j else i)) H) fMin2 := by
  intro φ M H xs as w M' Q sim r e q
  unfold fMin2 at e
  split at e
  · cases e
    obtain ⟨x, y, rfl, r1, r2⟩ := two_args r
    obtain rfl := r1.isI
    obtain rfl := r2.isI
    exact ⟨_, _, rfl, q _ φ H (.refl sim) (.d (.int _))⟩
  · cases e
theorem vc_int : VC C (fun xs H Q => (∃ i, xs = [.int i] /\ Q (.int i) H) ∨ ∃ k, xs = [.bl k] /\ Q (.int (if k then 1 else 0)) H) fInt := by
  intro φ M H xs as w M' Q sim r e q
  unfold fInt at e
  split at e
  · cases e
    obtain ⟨x, rfl, r1⟩ := one_arg r
    obtain rfl := r1.isI
    exact .inl ⟨_, rfl, q _ φ H (.refl sim) (.d (.int _))⟩
  · cases e
    obtain ⟨x, rfl, r1⟩ := one_arg r
    obtain rfl := r1.isB
    exact .inr ⟨_, rfl, q _ φ H (.refl sim) (.d (.int _))⟩
  · cases e
theorem vc_tuple : VC C (fun xs H Q => ∃ p ys, xs = [.ref p] /\ ((SqL C.K H p ys /\ ∀ l, H l = none -> Q (.ref l) (upd H l (.tup ys))) ∨ (SqT C.K H p ys /\ Q (.ref p) H))) fTuple := by
  intro φ M H xs as w M' Q sim r e q
  unfold fTuple at e
  split at e
  · obtain ⟨⟨i, ws⟩, es, e⟩ := bsome e
    cases e
    obtain ⟨x, rfl, r1⟩ := one_arg r
    obtain ⟨e1, e2⟩ := lstAt_eq es
    cases e1
    obtain ⟨rfl, _⟩ := r1.isO
    obtain ⟨vs, hv, r2⟩ := sim.ob _ _ e2
    refine ⟨_, vs, rfl, .inl ⟨SqL.of hv, fun l nl => ?_⟩⟩
    have s2 := Step.tup (o := .tup vs) sim nl
    exact q _ φ _ s2 (.tup (SqT.of upd_same) (r2.step s2))
  · obtain ⟨ws, es, e⟩ := bsome e
    cases e
    obtain ⟨x, rfl, r1⟩ := one_arg r
    obtain ⟨a, vs, rfl, sq, r2⟩ := r1.un es
    exact ⟨a, vs, rfl, .inr ⟨sq, q _ φ H (.refl sim) (.tup sq r2)⟩⟩
  · cases e
/-- ints, bools of values -/
def intsOf : List W -> Option (List Int)
  | [] => some []
  | w :: ws => (asI w).bind fun i => (intsOf ws).bind fun is => some (i :: is)
def boolsOf : List W -> Option (List Bool)
  | [] => some []
  | w :: ws => (asB w).bind fun i => (boolsOf ws).bind fun is => some (i :: is)
theorem intsOf_rel {φ : Nat -> Addr} {n : Nat} {H : Hp} : ∀ {vs : List V} {ws : List W} {is : List Int}, RwAll C φ n H vs ws -> intsOf ws = some is -> vs = is.map V.int
  | _, _, _, .nil, e => by cases e; rfl
  | _, _, _, .cons a r, e => by
    obtain ⟨i, h1, e⟩ := bsome e
    obtain ⟨is, h2, e⟩ := bsome e
    cases e
    rw [asI_eq h1] at a
    rw [a.isI, intsOf_rel r h2]
    rfl
theorem boolsOf_rel {φ : Nat -> Addr} {n : Nat} {H : Hp} : ∀ {vs : List V} {ws : List W} {is : List Bool}, RwAll C φ n H vs ws -> boolsOf ws = some is -> vs = is.map V.bl
  | _, _, _, .nil, e => by cases e; rfl
  | _, _, _, .cons a r, e => by
    obtain ⟨i, h1, e⟩ := bsome e
    obtain ⟨is, h2, e⟩ := bsome e
    cases e
    rw [asB_eq h1] at a
    rw [a.isB, boolsOf_rel r h2]
    rfl
def maxI : List Int -> Int
  | [] => 0
  | [n] => n
  | n :: m :: r => if maxI (m :: r) > n then maxI (m :: r) else n
theorem maxI_top : ∀ (ns : List Int), ns ≠ [] -> maxI ns ∈ ns /\ ∀ y ∈ ns, y <= maxI ns
  | [], h => absurd rfl h
  | [n], _ => by simp [maxI]
  | n :: m :: r, _ => by
    obtain ⟨h1, h2⟩ := maxI_top (m :: r) (by simp)
    unfold maxI
    split
    · rename_i z
      refine ⟨List.mem_cons_of_mem _ h1, fun y hy => ?_⟩
      rcases List.mem_cons.mp hy with rfl | hy
      · omega
      · exact h2 y hy
    · rename_i z
      refine ⟨List.mem_cons_self, fun y hy => ?_⟩
      rcases List.mem_cons.mp hy with rfl | hy
      · omega
      · have := h2 y hy; omega
theorem maxI_one {ns : List Int} {m : Int} (hm : m ∈ ns) (top : ∀ y ∈ ns, y <= m) : maxI ns = m := by
  obtain ⟨h1, h2⟩ := maxI_top ns (List.ne_nil_of_mem hm)
  exact Int.le_antisymm (top _ h1) (h2 _ hm)
def fMaxL : Fn := fun as M => match as with
  | [a] => (lstAt M a).bind fun l => (intsOf l.2).bind fun is => if is = [] then none else some (.d (.int (maxI is)), M)
  | _ => none
theorem vc_maxL : VC C (rMax C.K) fMaxL := by
  intro φ M H xs as w M' Q sim r e q
  unfold fMaxL at e
  split at e
  · obtain ⟨⟨i, ws⟩, es, e⟩ := bsome e
    obtain ⟨is, ei, e⟩ := bsome e
    split at e
    · cases e
    · rename_i ne
      cases e
      obtain ⟨x, rfl, r1⟩ := one_arg r
      obtain ⟨e1, e2⟩ := lstAt_eq es
      subst e1
      obtain ⟨rfl, _⟩ := r1.isO
      obtain ⟨vs, hv, r2⟩ := sim.ob _ _ e2
      have := intsOf_rel r2 ei
      subst this
      refine ⟨_, is, rfl, SqL.of hv, List.length_pos_iff.mpr ne, fun m hm top => q _ φ H (.refl sim) ?_⟩
      rw [maxI_one hm top]
      exact .d (.int _)
  · cases e
def fAll : Fn := fun as M => match as with
  | [a] => (lstAt M a).bind fun l => (boolsOf l.2).bind fun is => some (.d (.bool (is.all id)), M)
  | _ => none
theorem vc_all : VC C (rAll C.K) fAll := by
  intro φ M H xs as w M' Q sim r e q
  unfold fAll at e
  split at e
  · obtain ⟨⟨i, ws⟩, es, e⟩ := bsome e
    obtain ⟨is, ei, e⟩ := bsome e
    cases e
    obtain ⟨x, rfl, r1⟩ := one_arg r
    obtain ⟨e1, e2⟩ := lstAt_eq es
    subst e1
    obtain ⟨rfl, _⟩ := r1.isO
    obtain ⟨vs, hv, r2⟩ := sim.ob _ _ e2
    have := boolsOf_rel r2 ei
    subst this
    exact ⟨_, is, rfl, SqL.of hv, q _ φ H (.refl sim) (.d (.bl _))⟩
  · cases e
/-- list + list -/
def oCat : O2 := fun a b M => (lstAt M a).bind fun l => (lstAt M b).bind fun k => if l.2.length + k.2.length <= sizeLine then some (.obj M.length, M ++ [.lst (l.2 ++ k.2)]) else none
theorem vo_cat : VO2 C rCat oCat := by
  intro φ M H x y a b w M' Q sim rx ry e q
  obtain ⟨⟨i, ws⟩, e1, e⟩ := bsome e
  obtain ⟨⟨j, us⟩, e2, e⟩ := bsome e
  split at e
  · rename_i small
    cases e
    obtain ⟨h1, h2⟩ := lstAt_eq e1
    obtain ⟨h3, h4⟩ := lstAt_eq e2
    subst h1 h3
    obtain ⟨rfl, _⟩ := rx.isO
    obtain ⟨rfl, _⟩ := ry.isO
    obtain ⟨vs, hv, r1⟩ := sim.ob _ _ h2
    obtain ⟨vs2, hv2, r2⟩ := sim.ob _ _ h4
    exact ⟨_, _, vs, vs2, rfl, rfl, hv, hv2, by rw [r1.length, r2.length]; exact small, fun p np => q _ _ _ (.list sim np (r1.append r2)) .new⟩
  · cases e
end
def iSeq (a : EvE) : EvI := fun ρ M => (a ρ M).bind fun p => match p.1 with
  | .obj i => (lstAt p.2 (.obj i)).bind fun l => some ((l.2, [(i, .lst l.2)]), p.2)
  | w => (tupOf w).bind fun ws => some ((ws, []), p.2)
def InR (j : Int) : Prop := -(2 ^ 62) <= j /\ j < 2 ^ 62
theorem InR.of {j : Int} (h0 : -1000000000 <= j) (h1 : j <= 1000000000) : InR j := ⟨Int.le_trans (by decide) h0, Int.lt_of_le_of_lt h1 (by decide)⟩
open Classical in
noncomputable def iRange1 (a : EvA) : EvI := fun ρ M => (a ρ M).bind fun p => match p.1 with
  | [.d (.int j)] => if InR j then some (((List.range j.toNat).map fun (k : Nat) => .d (.int (0 + k)), []), p.2) else none
  | _ => none
open Classical in
noncomputable def iRange2 (a : EvA) : EvI := fun ρ M => (a ρ M).bind fun p => match p.1 with
  | [.d (.int i), .d (.int j)] => if InR i /\ InR j then some (((List.range (j - i).toNat).map fun (k : Nat) => .d (.int (i + k)), []), p.2) else none
  | _ => none
/-- a sequence with what must stay -/
def srcOf (M : Mem) (w : W) : Option (List W × List (Nat × MO)) := match w with
  | .obj i => (lstAt M (.obj i)).bind fun l => some (l.2, [(i, .lst l.2)])
  | w => (tupOf w).bind fun ws => some (ws, [])
def zip3W : List W -> List W -> List W -> List W
  | x :: xs, y :: ys, z :: zs => mkTup [x, y, z] :: zip3W xs ys zs
  | _, _, _ => []
def iZip3W (a : EvA) : EvI := fun ρ M => (a ρ M).bind fun p => match p.1 with
  | [x, y, z] => (srcOf p.2 x).bind fun s1 => (srcOf p.2 y).bind fun s2 => (srcOf p.2 z).bind fun s3 =>
    if s1.1.length = s2.1.length /\ s1.1.length = s3.1.length then some ((zip3W s1.1 s2.1 s3.1, s1.2 ++ s2.2 ++ s3.2), p.2) else none
  | _ => none
def zip2W : List W -> List W -> List W
  | x :: xs, y :: ys => mkTup [x, y] :: zip2W xs ys
  | _, _ => []
section
variable {C : Ck} {X : Cx} {tg e a : Expr} {fa : EvE} {fs : EvA} {pos p : Pos}
theorem _root_.L2.PI.or {t t' : TI} (h : PI X tg e t) (h' : PI X tg e t') : PI X tg e (fun σ H R => t σ H R ∨ t' σ H R) := ⟨fun pins s σ H R I q => by
  rcases q with q | q
  · exact h.run pins s σ H R I q
  · exact h'.run pins s σ H R I q⟩
theorem ItOk.walk {J : It} {n : Nat} {G : Hp -> Prop} {Y : Nat -> Hp -> V -> Hp -> Prop} {items : List W} {deps : List (Nat × MO)} {φ0 : Nat -> Addr} {M0 : Mem} {H0 : Hp} (w : Walk J n G Y) (hn : items.length = n)
    (hG : ∀ φ M H, Step C φ0 M0 H0 φ M H -> Deps deps M -> G H)
    (hY : ∀ φ M H, Step C φ0 M0 H0 φ M H -> Deps deps M -> ∀ (k : Nat) (w : W) (x : V) (H' : Hp), items[k]? = some w -> Y k H x H' -> Step C φ M H φ M H' /\ Rw C φ M.length H' x w) : ItOk C J items deps φ0 M0 H0 := by
  intro φ M H s d
  refine ⟨fun k w' hk => ?_, by rw [hn]; exact w.stops H (hG φ M H s d)⟩
  have hl : k < n := by rw [<- hn]; exact (List.getElem?_eq_some_iff.mp hk).1
  exact ⟨w.goes k H hl (hG φ M H s d), fun x H' y => hY φ M H s d k w' x H' hk (w.yields k H x H' hl (hG φ M H s d) y)⟩
theorem ItOk.list {φ0 : Nat -> Addr} {M0 : Mem} {H0 : Hp} {i : Nat} {ws : List W} (sim : Sim C φ0 M0 H0) (e : M0[i]? = some (.lst ws)) : ∃ vs, H0 (φ0 i) = some (.lst vs) /\ ItOk C (Itl C.K (φ0 i)) ws [(i, .lst ws)] φ0 M0 H0 := by
  obtain ⟨vs0, h0, r0⟩ := sim.ob _ _ e
  have hi : i < M0.length := (List.getElem?_eq_some_iff.mp e).1
  refine ⟨vs0, h0, fun φ M H s d => ?_⟩
  have em : M[i]? = some (.lst ws) := Deps.one.mp d
  obtain ⟨vs, hv, r⟩ := s.sim.ob _ _ em
  rw [s.ext i hi] at hv
  have w := walk_list (K := C.K) (a := φ0 i) (xs := vs)
  refine ⟨fun k w' hk => ?_, by rw [<- r.length]; exact w.stops H (SqL.of hv)⟩
  have hl : k < vs.length := by rw [r.length]; exact (List.getElem?_eq_some_iff.mp hk).1
  refine ⟨w.goes k H hl (SqL.of hv), fun x H' y => ?_⟩
  obtain ⟨rfl, hx⟩ := w.yields k H x H' hl (SqL.of hv) y
  obtain ⟨w2, h2, r2⟩ := r.get' hx
  rw [hk] at h2
  cases h2
  exact ⟨.refl s.sim, r2⟩
theorem ItOk.tup {φ0 : Nat -> Addr} {M0 : Mem} {H0 : Hp} {ad : Addr} {vs : List V} {ws : List W} (sq : SqT C.K H0 ad vs) (r : RwAll C φ0 M0.length H0 vs ws) : ItOk C (Itt C.K ad) ws [] φ0 M0 H0 :=
  ItOk.walk walk_tup r.length.symm (fun φ M H s _ => s.keep _ _ sq) fun φ M H s _ k w x H' hk ⟨eH, hx⟩ => by
    subst eH
    obtain ⟨w2, h2, r2⟩ := (r.step s).get' hx
    rw [hk] at h2
    cases h2
    exact ⟨.refl s.sim, r2⟩
theorem qi_seq (hK : X.K = C.K) (he : PE X e (tOf C fa)) : PI X tg e (tiOf C (iSeq fa)) :=
  ((pi_list he).or (pi_tup he)).weak fun σ H R ⟨ρ, φ, M, s, M', env, sim, e, q⟩ => by
    obtain ⟨⟨w, M1⟩, e1, e⟩ := bsome e
    simp only at e
    split at e
    · rename_i i
      obtain ⟨⟨i', ws⟩, el, e⟩ := bsome e
      cases e
      obtain ⟨e2, e3⟩ := lstAt_eq el
      cases e2
      refine .inl ⟨ρ, φ, M, _, _, env, sim, e1, fun v φ1 H1 s1 r1 => ?_⟩
      obtain ⟨rfl, _⟩ := r1.isO
      obtain ⟨vs, hv, ok⟩ := ItOk.list s1.sim e3
      exact ⟨_, rfl, ⟨vs, SqL.of hv⟩, by rw [hK]; exact q _ φ1 H1 s1 ok⟩
    · obtain ⟨ws, el, e⟩ := bsome e
      cases e
      refine .inr ⟨ρ, φ, M, _, _, env, sim, e1, fun v φ1 H1 s1 r1 => ?_⟩
      obtain ⟨ad, vs, rfl, sq, r⟩ := r1.un el
      exact ⟨ad, rfl, ⟨vs, by rw [hK]; exact sq⟩, by rw [hK]; exact q _ φ1 H1 s1 (.tup sq r)⟩
theorem ItOk.range {φ0 : Nat -> Addr} {M0 : Mem} {H0 : Hp} {lo : Int} {n : Nat} : ItOk C (Itr lo n) ((List.range n).map fun (k : Nat) => .d (.int (lo + k))) [] φ0 M0 H0 :=
  ItOk.walk walk_range (by simp) (fun _ _ _ _ _ => trivial) fun φ M H s _ k w x H' hk ⟨eH, hx⟩ => by
    subst eH hx
    rw [List.getElem?_map] at hk
    obtain ⟨j, hj, rfl⟩ := Option.map_eq_some_iff.mp hk
    have := List.getElem?_eq_some_iff.mp hj
    obtain ⟨_, h2⟩ := this
    rw [List.getElem_range] at h2
    subst h2
    exact ⟨.refl s.sim, .d (.int _)⟩
theorem qi_range1 (hg : Gl X "range") (hm : X.mg "range" = none) (ha : PA X [a] (taOf C fs)) (hs : starEach [a] X.env = [(false, eval a X.env)] := by rfl) : PI X tg (.Call (.Name "range" p) [a] [] pos) (tiOf C (iRange1 fs)) :=
  (pi_range1 hg hm ha hs).weak fun σ H R ⟨ρ, φ, M, s, M', env, sim, e, q⟩ => by
    obtain ⟨⟨ws, M1⟩, e1, e⟩ := bsome e
    simp only at e
    split at e
    · rename_i j
      split at e
      · rename_i hj
        cases e
        refine ⟨ρ, φ, M, _, _, env, sim, e1, fun v φ1 H1 s1 r1 => ?_⟩
        obtain ⟨x, rfl, rx⟩ := one_arg r1
        obtain rfl := rx.isI
        exact ⟨j, rfl, hj.1, hj.2, q _ φ1 H1 s1 .range⟩
      · cases e
    · cases e
/-- a source stands, and goes on standing -/
theorem src_rel {φ : Nat -> Addr} {M : Mem} {H : Hp} {v : V} {w : W} {s : List W × List (Nat × MO)} (sim : Sim C φ M H) (r : Rw C φ M.length H v w) (e : srcOf M w = some s) :
    ∃ b ad vs, v = .ref ad /\ SqB C.K H b ad vs /\ RwAll C φ M.length H vs s.1 /\ ∀ φ' M' H', Step C φ M H φ' M' H' -> Deps s.2 M' -> ∃ vs', SqB C.K H' b ad vs' /\ RwAll C φ' M'.length H' vs' s.1 := by
  unfold srcOf at e
  split at e
  · rename_i i
    obtain ⟨⟨i', ws⟩, el, e⟩ := bsome e
    cases e
    obtain ⟨e2, e3⟩ := lstAt_eq el
    cases e2
    obtain ⟨rfl, hi⟩ := r.isO
    obtain ⟨vs, hv, r⟩ := sim.ob _ _ e3
    refine ⟨true, _, vs, rfl, SqL.of hv, r, fun φ' M' H' st d => ?_⟩
    obtain ⟨vs', hv', r'⟩ := st.sim.ob _ _ (Deps.one.mp d)
    rw [st.ext _ hi] at hv'
    exact ⟨vs', SqL.of hv', r'⟩
  · obtain ⟨ws, el, e⟩ := bsome e
    cases e
    obtain ⟨ad, vs, rfl, sq, r⟩ := r.un el
    exact ⟨false, ad, vs, rfl, sq, r, fun φ' M' H' st _ => ⟨vs, st.keep _ _ sq, r.step st⟩⟩
theorem Deps.left {a b : List (Nat × MO)} {M : Mem} (h : Deps (a ++ b) M) : Deps a M := fun p hp => h p (List.mem_append_left _ hp)
theorem Deps.right {a b : List (Nat × MO)} {M : Mem} (h : Deps (a ++ b) M) : Deps b M := fun p hp => h p (List.mem_append_right _ hp)
end
end Va
namespace Va
open PySem PySem.Spec PyProof.Rows L2 Sa
/-- o.extend(e) -/
def sExt (o e : EvE) : EvE := fun ρ M => (o ρ M).bind fun q => (lstAt q.2 q.1).bind fun _ => (e ρ q.2).bind fun p => (lstAt p.2 q.1).bind fun l => (lstAt p.2 p.1).bind fun k => if l.2.length + k.2.length <= sizeLine then some (.d .none, p.2.set l.1 (.lst (l.2 ++ k.2))) else none
section
variable {C : Ck} {X : Cx} {o e : Expr} {fo fe : EvE} {apos cpos p : Pos} {x : Str} {k : Nat}
theorem q_app (hK : X.K = C.K) (h : PE X (.Call (.Attribute o "append" apos) [e] [] cpos) (tBM X.K "list" rAppend (tOf C fo) (tCons (tOf C fe) tNil))) :
    PE X (.Call (.Attribute o "append" apos) [e] [] cpos) (tOf C (sApp fo fe)) :=
  h.weak fun σ H Q ⟨ρ, φ, M, w, M', env, sim, e, q⟩ => by
    obtain ⟨⟨wo, M1⟩, e1, e⟩ := bsome e
    obtain ⟨⟨i1, ws1⟩, hl1, e⟩ := bsome e
    obtain ⟨⟨we, M2⟩, e2, e⟩ := bsome e
    obtain ⟨⟨i, ws⟩, el, e⟩ := bsome e
    split at e
    · rename_i small
      cases e
      obtain ⟨h1, h2⟩ := lstAt_eq el
      simp only at h1 h2 small
      subst h1
      obtain ⟨h3, h4⟩ := lstAt_eq hl1
      cases h3
      refine ⟨ρ, φ, M, _, M1, env, sim, e1, fun v φ1 H1 s1 r1 => ?_⟩
      obtain ⟨rfl, hi⟩ := r1.isO
      obtain ⟨vs1, hv1, _⟩ := s1.sim.ob _ _ h4
      refine ⟨.inl ⟨rfl, vs1, SqL.of hv1⟩, ρ, φ1, M1, we, M2, env.step s1, s1.sim, e2, fun v2 φ2 H2 s2 r2 => ?_⟩
      obtain ⟨vs, hv, r⟩ := s2.sim.ob _ _ h2
      rw [s2.ext _ hi] at hv
      refine ⟨_, vs, v2, rfl, rfl, hv, by rw [r.length]; exact small, ?_⟩
      have s3 := Step.set s2.sim h2 (r.append (.cons r2 .nil))
      rw [s2.ext _ hi] at s3
      exact q _ φ2 _ (s1.trans (s2.trans s3)) (.d .non)
    · cases e
theorem q_ext (hK : X.K = C.K) (h : PE X (.Call (.Attribute o "extend" apos) [e] [] cpos) (tBM X.K "list" rExtend (tOf C fo) (tCons (tOf C fe) tNil))) :
    PE X (.Call (.Attribute o "extend" apos) [e] [] cpos) (tOf C (sExt fo fe)) :=
  h.weak fun σ H Q ⟨ρ, φ, M, w, M', env, sim, e, q⟩ => by
    obtain ⟨⟨wo, M1⟩, e1, e⟩ := bsome e
    obtain ⟨⟨i1, ws1⟩, hl1, e⟩ := bsome e
    obtain ⟨⟨we, M2⟩, e2, e⟩ := bsome e
    obtain ⟨⟨i, ws⟩, el, e⟩ := bsome e
    obtain ⟨⟨j, us⟩, ek, e⟩ := bsome e
    split at e
    · rename_i small
      cases e
      obtain ⟨h1, h2⟩ := lstAt_eq el
      obtain ⟨h5, h6⟩ := lstAt_eq ek
      simp only at h1 h2 h5 h6 small
      subst h1 h5
      obtain ⟨h3, h4⟩ := lstAt_eq hl1
      cases h3
      refine ⟨ρ, φ, M, _, M1, env, sim, e1, fun v φ1 H1 s1 r1 => ?_⟩
      obtain ⟨rfl, hi⟩ := r1.isO
      obtain ⟨vs1, hv1, _⟩ := s1.sim.ob _ _ h4
      refine ⟨.inl ⟨rfl, vs1, SqL.of hv1⟩, ρ, φ1, M1, _, M2, env.step s1, s1.sim, e2, fun v2 φ2 H2 s2 r2 => ?_⟩
      obtain ⟨rfl, hj⟩ := r2.isO
      obtain ⟨vs, hv, r⟩ := s2.sim.ob _ _ h2
      obtain ⟨us', hu, ru⟩ := s2.sim.ob _ _ h6
      rw [s2.ext _ hi] at hv
      refine ⟨_, _, vs, us', rfl, rfl, hv, hu, by rw [r.length, ru.length]; exact small, ?_⟩
      have s3 := Step.set s2.sim h2 (r.append ru)
      rw [s2.ext _ hi] at s3
      exact q _ φ2 _ (s1.trans (s2.trans s3)) (.d .non)
    · cases e
/-- tuple(x[k] for x in e) -/
def itemsAt (k : Nat) : List W -> Option (List W)
  | [] => some []
  | w :: ws => (tupOf w).bind fun us => (us[k]?).bind fun u => (itemsAt k ws).bind fun r => some (u :: r)
def eTupIx (k : Nat) (a : EvE) : EvE := fun ρ M => (a ρ M).bind fun p => (seqOf p.2 p.1).bind fun ws => (itemsAt k ws).bind fun us => if us.length <= sizeLine then some (mkTup us, p.2) else none
/-- max(abs(x) for x in e) -/
def eMaxAbs (a : EvE) : EvE := fun ρ M => (a ρ M).bind fun p => (seqOf p.2 p.1).bind fun ws => (intsOf ws).bind fun is => if is = [] then none else if is.length <= sizeLine then some (.d (.int (maxI (is.map fun n => if n < 0 then -n else n))), p.2) else none
/-- all(x == (False, 0) for x in e) -/
def blanks : List W -> Option (List Bool)
  | [] => some []
  | .d (.tuple [.bool b, .int n]) :: ws => (blanks ws).bind fun r => some (PyData.eqv (.tuple [.bool b, .int n]) (.tuple [.bool false, .int 0]) :: r)
  | _ => none
def eAllBlank (a : EvE) : EvE := fun ρ M => (a ρ M).bind fun p => (seqOf p.2 p.1).bind fun ws => (blanks ws).bind fun bs => if bs.length <= sizeLine then some (.d (.bool (bs.all id)), p.2) else none
end
end Va
namespace Va
open PySem PySem.Spec PyProof.Rows L2 Sa
def Sub (L ds : List PyData) : Prop := (∀ d ∈ L, d ∈ ds) /\ (∀ d ∈ ds, nk d ∈ L.map nk) /\ (L.map nk).Nodup
structure SortsTo (ds R : List PyData) : Prop where
  keys : ∀ d ∈ ds, flat d = true /\ (nk d).depth <= 8 /\ (∃ y r, d = .tuple (y :: r)) /\ d.depth <= 60
  alike : PySem.W.AllAlike ds
  few : ∀ M : List NestedKey, M.Nodup -> (∀ k ∈ M, k ∈ ds.map nk) -> M.length + 1 < 64
  ex : ∃ L, Sub L ds
  one : ∀ L, Sub L ds -> L.mergeSort (PySem.W.dataLe false id) = R
theorem SortsTo.uniq {ds R R' : List PyData} (a : SortsTo ds R) (b : SortsTo ds R') : R = R' := by
  obtain ⟨L, h⟩ := a.ex
  rw [<- a.one L h, b.one L h]
open Classical in
noncomputable def fSortSet : Fn := fun as M => match as with
  | [a] => (lstAt M a).bind fun l => (datas l.2).bind fun ds => if h : ∃ R, SortsTo ds R then some (.obj M.length, M ++ [.lst (h.choose.map W.d)]) else none
  | _ => none
theorem fSortSet_eq {a : W} {M : Mem} {i : Nat} {ds R : List PyData} (ha : lstAt M a = some (i, ds.map W.d)) (h : SortsTo ds R) : fSortSet [a] M = some (.obj M.length, M ++ [.lst (R.map W.d)]) := by
  have hx : ∃ R, SortsTo ds R := ⟨R, h⟩
  simp only [fSortSet, ha, Option.bind_some, datas_map]
  rw [dif_pos hx, h.uniq hx.choose_spec]
section
variable {C : Ck} {X : Cx}
theorem pairs_of {φ : Nat -> Addr} {n : Nat} {H : Hp} : ∀ {vs : List V} {ds : List PyData}, RwAll C φ n H vs (ds.map W.d) -> (∀ d ∈ ds, ∃ y r, d = .tuple (y :: r)) -> ∃ L : List (Addr × PyData), vs = L.map (fun p => V.ref p.1) /\ L.map (·.2) = ds /\ ∀ p ∈ L, Rp C.K H (.ref p.1) p.2
  | [], [], _, _ => ⟨[], rfl, rfl, fun _ h => by simp at h⟩
  | v :: vs, d :: ds, .cons (.d a) r, h => by
    obtain ⟨L, h1, h2, h3⟩ := pairs_of r fun x hx => h x (List.mem_cons_of_mem _ hx)
    obtain ⟨y, t, rfl⟩ := h d List.mem_cons_self
    cases a with
    | tup s rr =>
      refine ⟨(_, .tuple (y :: t)) :: L, by rw [h1]; rfl, by simp [h2], fun p hp => ?_⟩
      rcases List.mem_cons.mp hp with rfl | hp
      · exact .tup s rr
      · exact h3 p hp
theorem rw_pairs {φ : Nat -> Addr} {n : Nat} {H : Hp} : ∀ (L : List (Addr × PyData)), (∀ p ∈ L, Rp C.K H (.ref p.1) p.2) -> RwAll C φ n H (L.map fun p => V.ref p.1) ((L.map (·.2)).map W.d)
  | [], _ => .nil
  | p :: L, h => .cons (.d (h p List.mem_cons_self)) (rw_pairs L fun q hq => h q (List.mem_cons_of_mem _ hq))
variable {e : Expr} {fe : EvE} {p1 p2 pos pos2 : Pos}
theorem q_sortSet (hK : X.K = C.K) (hw : X.w = C.w) (calm : X.calm = true) (hu : X.A.units + 64 < cLine) (h : PE X (.Call (.Name "sorted" p1) [.Call (.Name "set" p2) [e] [] pos2] [] pos) (tCB (rSortK X.K X.w) (tCons (tCB (rSetK X.K X.w) (tCons (tOf C fe) tNil)) tNil))) :
    PE X (.Call (.Name "sorted" p1) [.Call (.Name "set" p2) [e] [] pos2] [] pos) (tOf C (eCall fSortSet (aCons fe aNil))) :=
  h.weak fun σ H Q ⟨ρ, φ, M, w, M', env, sim, e, q⟩ => by
    obtain ⟨⟨ws0, M0⟩, e0, e⟩ := bsome e
    obtain ⟨⟨w1, M1⟩, e1, e0⟩ := bsome e0
    cases e0
    simp only [fSortSet] at e
    obtain ⟨⟨i, ws⟩, el, e⟩ := bsome e
    obtain ⟨ds, ed, e⟩ := bsome e
    split at e
    · rename_i hx
      cases e
      have ok := hx.choose_spec
      generalize hx.choose = R at ok q
      obtain ⟨h1, h2⟩ := lstAt_eq el
      simp only at h1 h2 ed
      subst h1
      have ed := datas_eq ed
      subst ed
      refine ⟨ρ, φ, M, _, _, env, sim, e1, fun v φ1 H1 s1 r1 => ?_⟩
      obtain ⟨rfl, _⟩ := r1.isO
      obtain ⟨vs, hv, r⟩ := s1.sim.ob _ _ h2
      obtain ⟨L, rfl, hL, hp⟩ := pairs_of r fun d hd => (ok.keys d hd).2.2.1
      have inL : ∀ p ∈ L, p.2 ∈ ds := fun p hp' => by rw [<- hL]; exact List.mem_map_of_mem hp'
      rw [hK, hw]
      refine ⟨_, L, rfl, SqL.of hv, fun p hp' => ⟨(hp p hp').dp, (ok.keys _ (inL p hp')).1, (ok.keys _ (inL p hp')).2.1⟩, fun ks nd sub => ok.few ks nd fun k hk => ?_, fun a L2 na sub2 cov nd2 => ?_⟩
      · have := sub k hk
        rw [List.map_map] at this
        rw [<- hL, List.map_map]
        exact this
      have s2 := Step.tup (o := KsO C.w a (L2.map keyOf)) s1.sim na
      have hp2 : ∀ p ∈ L2, Rp C.K H1 (.ref p.1) p.2 := fun p hp' => hp p (sub2 p hp')
      have in2 : ∀ p ∈ L2, p.2 ∈ ds := fun p hp' => inL p (sub2 p hp')
      have subD : Sub (L2.map (·.2)) ds := by
        refine ⟨fun d hd => ?_, fun d hd => ?_, by rw [List.map_map]; exact nd2⟩
        · obtain ⟨p, hp', rfl⟩ := List.mem_map.mp hd
          exact in2 p hp'
        · rw [<- hL] at hd
          obtain ⟨p, hp', rfl⟩ := List.mem_map.mp hd
          rw [List.map_map]
          exact cov p hp'
      refine ⟨a, L2, rfl, upd_same, fun p hp' => ((hp2 p hp').keep s2.keep).dp, fun d hd d' hd' => ok.alike d (subD.1 d hd) d' (subD.1 d' hd'), fun p hp' => (ok.keys _ (in2 p hp')).2.2.1, fun p hp' => (ok.keys _ (in2 p hp')).2.2.2, ?_, fun p3 L3 np perm => ?_⟩
      · have := ok.few (L2.map fun q => nk q.2) nd2 fun k hk => ?_
        · rw [List.length_map] at this
          omega
        · obtain ⟨p, hp', rfl⟩ := List.mem_map.mp hk
          exact List.mem_map_of_mem (in2 p hp')
      have sub3 : Sub (L3.map (·.2)) ds := by
        have pm : (L3.map (·.2)).Perm (L2.map (·.2)) := perm.map _
        refine ⟨fun d hd => subD.1 d (pm.mem_iff.mp hd), fun d hd => (pm.map nk).mem_iff.mpr (subD.2.1 d hd), (pm.map nk).nodup_iff.mpr subD.2.2⟩
      have key := ok.one _ sub3
      have mm : (L3.mergeSort (PySem.W.dataLe false (·.2))).map (·.2) = (L3.map (·.2)).mergeSort (PySem.W.dataLe false id) := List.map_mergeSort fun a _ b _ => rfl
      rw [key] at mm
      have hp3 : ∀ p ∈ L3.mergeSort (PySem.W.dataLe false (·.2)), Rp C.K (upd H1 a (KsO C.w a (L2.map keyOf))) (.ref p.1) p.2 := fun p hp' =>
        (hp2 p (perm.mem_iff.mp ((List.mergeSort_perm L3 _).mem_iff.mp hp'))).keep s2.keep
      have rr := rw_pairs (φ := φ1) (n := M1.length) _ hp3
      rw [mm] at rr
      have s3 := Step.list s2.sim np rr
      exact q _ _ _ (s1.trans (s2.trans s3)) .new
    · cases e
end
def fnV (n : Nat) (g : EvS) : Fn := fun ws M => (g (ws.map some ++ List.replicate (n - ws.length) none) M).bind fun o => match o with
  | .rt w M' => some (w, M')
  | .nx _ M' => some (.d .none, M')
  | _ => none
section
variable {P : Program} {w : World} {mg : Str -> Option Value} {base : Heap} {C : Ck} {k n : Nat} {x : Str} {st : Stmt} {N ps : List Str} {g : EvS} {F F' : Fn}
theorem start_rel {φ : Nat -> Addr} {M : Mem} {H : Hp} {vs : List V} {ws : List W} (r : RwAll C φ M.length H vs ws) : EnvR C φ M.length H (L2.start N vs) (ws.map some ++ List.replicate (N.length - ws.length) none) := by
  unfold L2.start
  refine ⟨by simp [r.length], fun i w' h => ?_⟩
  by_cases hl : i < ws.length
  · rw [List.getElem?_append_left (by simpa using hl), List.getElem?_map] at h
    obtain ⟨w2, h2, e⟩ := Option.map_eq_some_iff.mp h
    cases e
    obtain ⟨v, h3, h4⟩ := r.get h2
    exact ⟨v, by rw [List.getElem?_append_left (by simp [r.length, hl]), List.getElem?_map, h3]; rfl, h4⟩
  · rw [List.getElem?_append_right (by simpa using Nat.le_of_not_lt hl), List.getElem?_replicate] at h
    split at h <;> cases h
theorem run_body {H : Hp} {vs : List V} {Q : VK} {E : XK} (hn : n = N.length) (h : spV C ps.length (fnV n g) vs H Q E) : tsOf C g ⟨fun _ H' => Q .non H', Q, fun _ _ => False, fun _ _ => False⟩ (L2.start N vs) H := by
  obtain ⟨φ, M, ws, w', M', r, hl, sim, e, q⟩ := h
  obtain ⟨o, e1, e⟩ := bsome e
  subst hn
  refine ⟨_, φ, M, o, start_rel r, sim, e1, ?_⟩
  cases o with
  | rt w2 M2 => cases e; exact q
  | nx ρ2 M2 => cases e; exact fun σ' φ' H' s _ => q _ φ' H' s (.d .non)
  | bk ρ2 M2 => cases e
  | ct ρ2 M2 => cases e
/-- the body of a def by value -/
theorem Dv.of (S : Stands C.K mg x st ps) (sc : FnScope N ps (defScope st)) (hn : n = N.length)
    (walk : ∀ (f : Addr) (cdv : Value) (A : Around) (outer : List Env) (s : Shared) (H : Hp) (E : XK), Room k (A.deeper (envOfC x (defScope st) s.heap.objs.size f cdv)) -> Free A ->
      PSs (cxOf CX0 P w C.K mg base N x (defScope st) f cdv A outer s H E).nox (defBody st) (tsOf C g)) :
    Df P w C.K mg base (k + 1) x ps (spV C ps.length (fnV n g)) :=
  Df.of S sc (fun vs H Q E ⟨_, _, _, _, _, _, hl, _⟩ => hl) fun f cdv A outer s H vs Q E hr hf h => ⟨_, walk f cdv A outer s H E hr hf, run_body hn h⟩
theorem Dv.ofC {f0 c : Addr} {fd0 : FuncData} (F : Fun C.K x x st f0 fd0) (m : mg x = some (.ref f0)) (b : Binds C.K fd0 ps []) (hc : fd0.code = .ref c) (sc : FnScope N ps (defScope st)) (hn : n = N.length)
    (walk : ∀ (A : Around) (outer : List Env) (s : Shared) (H : Hp) (E : XK), Room k (A.deeper (envOfC x (defScope st) s.heap.objs.size f0 (.ref c))) -> Free A ->
      PSs (cxOf CX0 P w C.K mg base N x (defScope st) f0 (.ref c) A outer s H E).nox (defBody st) (tsOf C g)) :
    Df P w C.K mg base (k + 1) x ps (spV C ps.length (fnV n g)) :=
  Df.ofC F m b hc sc (fun vs H Q E ⟨_, _, _, _, _, _, hl, _⟩ => hl) fun A outer s H vs Q E hr hf h => ⟨_, walk A outer s H E hr hf, run_body hn h⟩
/-- a value without things of the memory -/
def isD : W -> Bool
  | .d _ => true
  | .scr => true
  | _ => false
def isDO : MO -> Bool
  | .lst ws => ws.all isD
  | .kset _ => true
  | .dic _ _ => true
  | .pot _ => true
/-- M1 is M but for lists of data -/
def Cut (M M1 : Mem) : Prop := M1.length = M.length /\ ∀ (k : Nat) (mo : MO), M1[k]? = some mo -> M[k]? = some mo ∨ isDO mo = true
theorem Cut.refl {M : Mem} : Cut M M := ⟨rfl, fun _ _ h => .inl h⟩
theorem Cut.set {M M1 : Mem} (h : Cut M M1) (i : Nat) {ws : List W} (d : ws.all isD = true) : Cut M (M1.set i (.lst ws)) := by
  refine ⟨by simp [h.1], fun k mo e => ?_⟩
  by_cases z : i = k
  · subst z
    by_cases hl : i < M1.length
    · rw [List.getElem?_set_self hl] at e; cases e; exact .inr d
    · rw [List.getElem?_eq_none (by simpa using Nat.le_of_not_lt hl)] at e; cases e
  · rw [List.getElem?_set_ne z] at e
    exact h.2 k mo e
theorem Rw.shrink {φ : Nat -> Addr} {m n : Nat} {H : Hp} {v : V} {w : W} (r : Rw C φ m H v w) (d : isD w = true) : Rw C φ n H v w := by
  cases r with
  | d r => exact .d r
  | scr => exact .scr
  | obj h => cases d
  | pack s r => cases d
  | fn h => cases d
theorem RwAll.shrink {φ : Nat -> Addr} {m n : Nat} {H : Hp} : ∀ {vs : List V} {ws : List W}, RwAll C φ m H vs ws -> ws.all isD = true -> RwAll C φ n H vs ws
  | _, _, .nil, _ => .nil
  | _, _, .cons a r, d => by
    rw [List.all_cons, Bool.and_eq_true] at d
    exact .cons (a.shrink d.1) (RwAll.shrink r d.2)
theorem RO.shrink {φ : Nat -> Addr} {m n : Nat} {H : Hp} {a : Addr} {mo : MO} (r : RO C φ m H a mo) (d : isDO mo = true) : RO C φ n H a mo := by
  cases mo with
  | lst ws => obtain ⟨vs, h, r⟩ := r; exact ⟨vs, h, r.shrink d⟩
  | kset ds => exact r
  | dic es n => exact r
  | pot es => exact r
/-- what was made on the way is forgotten -/
theorem Step.cut {φ φ' : Nat -> Addr} {M M1 J : Mem} {H H' : Hp} (S : Sim C φ M H) (s : Step C φ M H φ' (M1 ++ J) H') (c : Cut M M1) : Step C φ M H φ' M1 H' := by
  refine ⟨s.ext, by rw [c.1]; exact Nat.le_refl _, s.keep, ⟨fun i mo e => ?_, fun i j hi hj e => s.sim.inj i j (by simp; omega) (by simp; omega) e, s.sim.tab, s.sim.scr, fun q hq => ⟨(s.sim.lam q hq).1, (s.sim.lam q hq).2.move (fun ps h => h) fun c h n => ⟨h, fun i hi => n i (by simp; omega)⟩⟩⟩, fun i es n e => ?_⟩
  rotate_left
  · obtain ⟨es', n', e', r⟩ := s.dics i es n e
    have hi : i < M1.length := by rw [c.1]; exact (List.getElem?_eq_some_iff.mp e).1
    exact ⟨es', n', by rw [List.getElem?_append_left hi] at e'; exact e', r⟩
  have hi : i < M1.length := (List.getElem?_eq_some_iff.mp e).1
  have now := s.sim.ob i mo (by rw [List.getElem?_append_left hi]; exact e)
  rcases c.2 i mo e with old | d
  · have was := S.ob i mo old
    rw [c.1]
    -- its items speak of things that were there
    cases mo with
    | lst ws =>
      obtain ⟨vs, h1, r1⟩ := was
      obtain ⟨vs2, h2, r2⟩ := now
      exact ⟨vs2, h2, by
        have key : ∀ {us us2 : List V} {ws : List W}, RwAll C φ M.length H us ws -> RwAll C φ' (M1 ++ J).length H' us2 ws -> RwAll C φ' M.length H' us2 ws := by
          have one : ∀ (w : W) {u u2 : V}, Rw C φ M.length H u w -> Rw C φ' (M1 ++ J).length H' u2 w -> Rw C φ' M.length H' u2 w := by
            intro w
            refine W.rec (motive_1 := fun w => ∀ {u u2 : V}, Rw C φ M.length H u w -> Rw C φ' (M1 ++ J).length H' u2 w -> Rw C φ' M.length H' u2 w)
              (motive_2 := fun ws => ∀ {us us2 : List V}, RwAll C φ M.length H us ws -> RwAll C φ' (M1 ++ J).length H' us2 ws -> RwAll C φ' M.length H' us2 ws) ?_ ?_ ?_ ?_ ?_ ?_ ?_ w
            · intro x u u2 a b; cases b with | d b => exact .d b
            · intro i u u2 a b; cases a with | obj h => cases b; exact .obj h
            · intro u u2 a b; cases b; exact .scr
            · intro ws ih u u2 a b; cases a with | pack s1 r1 => cases b with | pack s2 r2 => exact .pack s2 (ih r1 r2)
            · intro u u2 a b; cases b with | fn h => exact .fn h
            · intro us us2 a b; cases b; exact .nil
            · intro w ws i1 i2 us us2 a b; cases a with | cons a1 a2 => cases b with | cons b1 b2 => exact .cons (i1 a1 b1) (i2 a2 b2)
          intro us us2 ws
          induction ws generalizing us us2 with
          | nil => intro a b; cases b; exact .nil
          | cons w ws ih => intro a b; cases a with | cons a1 a2 => cases b with | cons b1 b2 => exact .cons (one w a1 b1) (ih a2 b2)
        exact key r1 r2⟩
    | kset ds => exact now
    | dic es n => exact now
    | pot es => exact now
  · exact now.shrink d
/-- a def's promise, made handy: where F tells a value of data, what was made is forgotten -/
theorem spV_weak (h : ∀ ws M w M1, F' ws M = some (w, M1) -> F ws M = some (w, M1) ∨ (isD w = true /\ Cut M M1 /\ ∃ J, F ws M = some (w, M1 ++ J))) : ∀ vs H Q E, spV C n F' vs H Q E -> spV C n F vs H Q E := by
  intro vs H Q E ⟨φ, M, ws, w, M1, r, hl, sim, e, q⟩
  rcases h ws M w M1 e with e | ⟨d, c, J, e⟩
  · exact ⟨φ, M, ws, w, M1, r, hl, sim, e, q⟩
  · exact ⟨φ, M, ws, w, _, r, hl, sim, e, fun v φ' H' s rv => q v φ' H' (Step.cut sim s c) (rv.shrink d)⟩
theorem Dv.weak (D : Df P w C.K mg base k x ps (spV C n F)) (h : ∀ ws M w M1, F' ws M = some (w, M1) -> F ws M = some (w, M1) ∨ (isD w = true /\ Cut M M1 /\ ∃ J, F ws M = some (w, M1 ++ J))) : Df P w C.K mg base k x ps (spV C n F') :=
  D.weak (spV_weak h)
/-- the same where a new thing of data is told: it stands first of what is made -/
theorem spV_new {φ : Nat -> Addr} {M M0 J : Mem} {ws : List W} {mo : MO} {vs : List V} {H : Hp} {Q : VK} {E : XK} {j : Nat} (r : RwAll C φ M.length H vs ws) (hl : vs.length = n) (sim : Sim C φ M H) (e2 : F ws M = some (.obj (M.length + j), M0 ++ J)) (hj : J[j]? = some mo) (hd : isDO mo = true) (c : Cut M M0)
    (q : ∀ v φ' H', Step C φ M H φ' (M0 ++ [mo]) H' -> Rw C φ' (M0 ++ [mo]).length H' v (.obj M.length) -> Q v H') : spV C n F vs H Q E := by
  refine ⟨φ, M, ws, _, _, r, hl, sim, e2, fun v φ' H' s rv => ?_⟩
  have s0 := Step.cut sim s c
  have hjl : j < J.length := (List.getElem?_eq_some_iff.mp hj).1
  have atJ : (M0 ++ J)[M.length + j]? = some mo := by
    rw [List.getElem?_append_right (by rw [c.1]; omega), c.1, Nat.add_sub_cancel_left]; exact hj
  obtain ⟨rfl, hlt⟩ := rv.isO
  have r2 := s.sim.ob _ _ atJ
  -- the new numbering
  have hext : ∀ i, i < M.length -> phi φ' M.length (φ' (M.length + j)) i = φ' i := fun i hi => phi_lt hi
  refine q _ (phi φ' M.length (φ' (M.length + j))) H' ⟨fun i hi => (hext i hi).trans (s.ext i hi), by simp [c.1], s.keep, ⟨fun i mo' ei => ?_, fun a b ha hb eab => ?_, s.sim.tab, s.sim.scr, fun q hq => ⟨(s.sim.lam q hq).1, (s.sim.lam q hq).2.move (fun ps h => h) fun cc hc n2 => ⟨hc, fun i hi => ?_⟩⟩⟩, fun i es n ei => ?_⟩ ?_
  · by_cases hi : i < M0.length
    · rw [List.getElem?_append_left hi] at ei
      have := s0.sim.ob i mo' ei
      have hi' : i < M.length := by rw [<- c.1]; exact hi
      rw [hext i hi']
      exact this.move .refl (fun k hk => hext k (by rw [<- c.1]; exact hk)) (by simp) rfl
    · have hi2 : i = M0.length := by
        have := (List.getElem?_eq_some_iff.mp ei).1
        simp at this
        omega
      subst hi2
      rw [List.getElem?_append_right (Nat.le_refl _)] at ei
      simp at ei
      subst ei
      rw [c.1, phi_at]
      exact (r2.shrink (n := 0) hd).move .refl (fun k hk => absurd hk (Nat.not_lt_zero k)) (Nat.zero_le _) rfl
  · simp only [List.length_append, List.length_singleton, c.1] at ha hb
    have lt1 : ∀ {i}, i < M.length -> i < (M0 ++ J).length := fun {i} hi => by simp [c.1]; omega
    by_cases h1 : a < M.length <;> by_cases h2 : b < M.length
    · rw [hext a h1, hext b h2] at eab
      exact s.sim.inj a b (lt1 h1) (lt1 h2) eab
    · have : b = M.length := by omega
      subst this
      rw [hext a h1, phi_at] at eab
      have := s.sim.inj a _ (lt1 h1) hlt eab
      omega
    · have : a = M.length := by omega
      subst this
      rw [hext b h2, phi_at] at eab
      have := s.sim.inj _ b hlt (lt1 h2) eab
      omega
    · omega
  · simp only [List.length_append, List.length_singleton, c.1] at hi
    by_cases z : i = M.length
    · subst z
      rw [phi_at]
      exact n2 _ hlt
    · rw [hext i (by omega)]
      exact n2 i (by simp [c.1]; omega)
  · obtain ⟨es', n', e', r'⟩ := s0.dics i es n ei
    exact ⟨es', n', by rw [List.getElem?_append_left (List.getElem?_eq_some_iff.mp e').1]; exact e', r'⟩
  · have h : Rw C (phi φ' M.length (φ' (M.length + j))) (M0 ++ [mo]).length H' (.ref (phi φ' M.length (φ' (M.length + j)) M.length)) (.obj M.length) := .obj (by simp [c.1])
    rw [phi_at] at h
    exact h
end
end Va
namespace Va
open PySem PySem.Spec PyProof.Rows L2 Sa
open Classical in
/-- what a call leaves: data, or a new thing of data, without what was made on the way -/
noncomputable def norm (M : Mem) (p : W × Mem) : W × Mem :=
  if isD p.1 = true /\ M.length <= p.2.length /\ Cut M (p.2.take M.length) then (p.1, p.2.take M.length)
  else match p.1 with
    | .obj i => match p.2[i]? with
      | some mo => if M.length <= i /\ isDO mo = true /\ Cut M (p.2.take M.length) then (.obj M.length, p.2.take M.length ++ [mo]) else p
      | none => p
    | _ => p
noncomputable def nf (F : Fn) : Fn := fun ws M => (F ws M).map (norm M)
theorem norm_d {M M1 J : Mem} {w : W} (d : isD w = true) (c : Cut M M1) : norm M (w, M1 ++ J) = (w, M1) := by
  have t : (M1 ++ J).take M.length = M1 := by rw [<- c.1]; simp
  unfold norm
  rw [if_pos ⟨d, by simp [c.1], by rw [t]; exact c⟩]
  simp only [t]
theorem norm_o {M M1 J : Mem} {j : Nat} {mo : MO} (hj : J[j]? = some mo) (d : isDO mo = true) (c : Cut M M1) : norm M (.obj (M.length + j), M1 ++ J) = (.obj M.length, M1 ++ [mo]) := by
  have t : (M1 ++ J).take M.length = M1 := by rw [<- c.1]; simp
  have g : (M1 ++ J)[M.length + j]? = some mo := by
    rw [List.getElem?_append_right (by rw [c.1]; omega), c.1, Nat.add_sub_cancel_left]; exact hj
  unfold norm
  rw [if_neg (fun z => by cases z.1)]
  simp only [g]
  rw [if_pos ⟨Nat.le_add_right _ _, d, by rw [t]; exact c⟩, t]
theorem norm_l {M M1 J : Mem} {j : Nat} {us : List W} (hj : J[j]? = some (.lst us)) (d : us.all isD = true) (c : Cut M M1) : norm M (.obj (M.length + j), M1 ++ J) = (.obj M.length, M1 ++ [.lst us]) := norm_o hj d c
section
variable {P : Program} {w : World} {mg : Str -> Option Value} {base : Heap} {C : Ck} {k n : Nat} {x : Str} {st : Stmt} {N ps : List Str} {F : Fn}
theorem spV_nf {vs : List V} {H : Hp} {Q : VK} {E : XK} (h : spV C n (nf F) vs H Q E) : spV C n F vs H Q E := by
  obtain ⟨φ, M, ws, w1, M1, r, hl, sim, e, q⟩ := h
  obtain ⟨⟨w0, M0⟩, e0, e⟩ := Option.map_eq_some_iff.mp e
  unfold norm at e
  split at e
  · rename_i c
    obtain ⟨d, le, cut⟩ := c
    cases e
    have e1 : F ws M = some (w0, M0.take M.length ++ M0.drop M.length) := by rw [List.take_append_drop]; exact e0
    exact ⟨φ, M, ws, w0, _, r, hl, sim, e1, fun v φ' H' s rv => q v φ' H' (Step.cut sim s cut) (rv.shrink d)⟩
  · split at e
    · rename_i i hi
      simp only at hi
      subst hi
      split at e
      · rename_i us hu
        split at e
        · rename_i c
          obtain ⟨le, hd, cut⟩ := c
          cases e
          obtain ⟨j, rfl⟩ := Nat.le.dest le
          have e1 : F ws M = some (.obj (M.length + j), M0.take M.length ++ M0.drop M.length) := by rw [List.take_append_drop]; exact e0
          exact spV_new r hl sim e1 (by rw [List.getElem?_drop]; exact hu) hd cut q
        · cases e
          exact ⟨φ, M, ws, _, _, r, hl, sim, e0, q⟩
      · cases e
        exact ⟨φ, M, ws, _, _, r, hl, sim, e0, q⟩
    · cases e
      exact ⟨φ, M, ws, _, _, r, hl, sim, e0, q⟩
theorem Dv.nf (D : Df P w C.K mg base k x ps (spV C n F)) : Df P w C.K mg base k x ps (spV C n (nf F)) := D.weak fun vs H Q E h => spV_nf h
/-- the law's own def -/
theorem Dv.fn {f0 : Addr} {fd0 : FuncData} {g : EvS} (F : Fun C.K x x st f0 fd0) (sc : FnScope N ps (defScope st)) (hn : n = N.length)
    (walk : ∀ (f : Addr) (cdv : Value) (A : Around) (outer : List Env) (s : Shared) (H : Hp) (E : XK), Room k (A.deeper (envOfC x (defScope st) s.heap.objs.size f cdv)) -> Free A ->
      PSs (cxOf CX0 P w C.K mg base N x (defScope st) f cdv A outer s H E).nox (defBody st) (tsOf C g)) :
    FnG P w C.K mg base (k + 1) f0 fd0 ps (spV C ps.length (Va.nf (fnV n g))) :=
  okG F sc (fun vs H Q E ⟨_, _, _, _, _, _, hl, _⟩ => hl) fun cdv A outer s H vs Q E _ hr hf h => ⟨_, walk f0 cdv A outer s H E hr hf, run_body hn (spV_nf h)⟩
/-- a def that isn't asked -/
theorem Dv.never (S : Stands C.K mg x st ps) : Df P w C.K mg base k x ps (spV C n fun _ _ => none) := by
  refine Df.mk' S fun f fd F => ⟨fun vs H Q E h => ?_, fun A outer s H args us vs Q E _ _ _ _ _ h => ?_⟩
  · obtain ⟨_, _, _, _, _, _, _, _, e, _⟩ := h; cases e
  · obtain ⟨_, _, _, _, _, _, _, _, e, _⟩ := h; cases e
/-- [x] * n -/
def oRep : O2 := fun a b M => (lstAt M a).bind fun l => (asI b).bind fun k => if -(2 ^ 63) <= k /\ k < 2 ^ 63 /\ l.2.length * k.toNat <= sizeLine then some (.obj M.length, M ++ [.lst (List.replicate k.toNat l.2).flatten]) else none
theorem rep_rel {φ : Nat -> Addr} {m : Nat} {H : Hp} {vs : List V} {ws : List W} (r : RwAll C φ m H vs ws) : ∀ k, RwAll C φ m H (List.replicate k vs).flatten (List.replicate k ws).flatten
  | 0 => .nil
  | k + 1 => by
    simp only [List.replicate_succ, List.flatten_cons]
    exact r.append (rep_rel r k)
/-- tuple + tuple -/
def oCatT : O2 := fun a b M => (tupOf a).bind fun l => (tupOf b).bind fun k => if l.length + k.length <= sizeLine then some (mkTup (l ++ k), M) else none
end
end Va
namespace Va
open PySem PySem.Spec PyProof.Rows L2 Sa
def kindW (M : Mem) : W -> Option String
  | .d .none => some "NoneType"
  | .d (.bool _) => some "bool"
  | .d (.int _) => some "int"
  | .d (.str _) => some "str"
  | .d (.tuple _) => some "tuple"
  | .pack _ => some "tuple"
  | .obj i => match M[i]? with
    | some (.lst _) => some "list"
    | some (.dic _ _) => some "dict"
    | _ => none
  | _ => none
def isiB (T k : String) : Bool := k == T || (T == "int" && k == "bool")
theorem isiB_ok : ∀ T ∈ ["tuple", "str", "int", "bool"], ∀ k ∈ ["NoneType", "bool", "int", "str", "tuple", "list", "dict"], kitB k T = some (isiB T k) := by decide +kernel
def eIsi (T : String) (a : EvE) : EvE := fun ρ M => (a ρ M).bind fun p => (kindW p.2 p.1).bind fun k => some (.d (.bool (isiB T k)), p.2)
/-- of this type: as the library tells, or a tracked dict -/
def TyD (K : PySem.W.Frag) (w : World) (H : Hp) (x : V) (t : Value) : Prop := TyX K H x t ∨ ∃ a L, x = .ref a /\ KdAt w H a L /\ t = .type "dict"
def rIsiW (K : PySem.W.Frag) (w : World) : List V -> Hp -> VK -> Prop := fun xs H Q => ∃ (x c : V) (t u : Value) (b : Bool), xs = [x, c] /\ ClsV c u /\ TyD K w H x t /\ PySem.W.kitOne K t u = some b /\ Q (.bl b) H
theorem call_isiW {X : Cx} : CallR X (.builtin "isinstance") (rIsiW X.K X.w) := by
  intro pins s σ H xs us Q I r h
  obtain ⟨x, c, t, u, b, rfl, k, ty, e, q⟩ := h
  rcases ty with ty | ⟨a, L, rfl, at', rfl⟩
  · exact call_isi pins s σ H _ us Q I r ⟨x, c, t, u, b, rfl, k, ty, e, q⟩
  · obtain ⟨u1, u2, rfl, r1, r2⟩ := vals2 r
    have e2 := k.eq r2
    subst e2
    cases (show u1 = Value.ref a from r1)
    obtain ⟨_, _, xs, _, ⟨o, es, ep, ho, ex, _⟩, _⟩ := kd_at I at'
    exact PySem.W.kia_one (PySem.W.kitx_dict (a := a)) I.kIn ⟨o, ho, ex.1⟩ e (fun z => nomatch z) fun tk => ⟨.bl b, H, I.tok tk, rfl, q⟩
theorem kind_ty {C : Ck} {φ : Nat -> Addr} {M : Mem} {H : Hp} {v : V} {w : W} {k : String} (sim : Sim C φ M H) (r : Rw C φ M.length H v w) (e : kindW M w = some k) : TyD C.K C.w H v (.type k) /\ k ∈ ["NoneType", "bool", "int", "str", "tuple", "list", "dict"] := by
  have tup : ∀ {a : Addr} {vs : List V}, SqT C.K H a vs -> TyX C.K H (.ref a) (.type "tuple") := fun {a vs} s => by
    rcases s with (s | ⟨o, s⟩) | ⟨o, its, n, h1, h2, _⟩
    · exact .base (.tup s)
    · exact .fTuple s
    · exact .kTuple h1 h2
  cases r with
  | d r => cases r with
    | non => cases e; exact ⟨.inl (.base .non), by simp⟩
    | bl b => cases e; exact ⟨.inl (.base (.bl b)), by simp⟩
    | int i => cases e; exact ⟨.inl (.base (.int i)), by simp⟩
    | str x => cases e; exact ⟨.inl (.base (.str x)), by simp⟩
    | tup s r => cases e; exact ⟨.inl (tup s), by simp⟩
  | obj h =>
    simp only [kindW] at e
    split at e
    · rename_i ws he
      cases e
      obtain ⟨vs, hv, _⟩ := sim.ob _ _ he
      exact ⟨.inl (.base (.lst hv)), by simp⟩
    · rename_i es n he
      cases e
      obtain ⟨L, hv, _⟩ := sim.ob _ _ he
      exact ⟨.inr ⟨_, L, rfl, hv, rfl⟩, by simp⟩
    · cases e
  | scr => cases e
  | pack s r => cases e; exact ⟨.inl (tup s), by simp⟩
  | fn h => cases e
def sPar3 (i j l : Nat) (a : EvA) : EvS := fun ρ M => (a ρ M).bind fun p => match p.1 with
  | [x, y, z] => some (.nx (((ρ.set i (some x)).set j (some y)).set l (some z)) p.2)
  | _ => none
section
variable {C : Ck} {X : Cx} {e : Expr} {fa : EvE} {pos p1 p2 : Pos}
theorem q_isi {T : String} (hT : T ∈ ["tuple", "str", "int", "bool"]) {y : Str} (hK : X.K = C.K) (hW : X.w = C.w) (h : PE X (.Call (.Name "isinstance" p1) [e, .Name y p2] [] pos) (tCB (rIsiW X.K X.w) (tCons (tOf C fa) (tCons (tC (.ty T)) tNil)))) :
    PE X (.Call (.Name "isinstance" p1) [e, .Name y p2] [] pos) (tOf C (eIsi T fa)) :=
  h.weak fun σ H Q ⟨ρ, φ, M, w, M', env, sim, e, q⟩ => by
    obtain ⟨⟨w1, M1⟩, e1, e⟩ := bsome e
    obtain ⟨k, ek, e⟩ := bsome e
    cases e
    refine ⟨ρ, φ, M, _, _, env, sim, e1, fun v φ1 H1 s1 r1 => ?_⟩
    obtain ⟨ty, hk⟩ := kind_ty s1.sim r1 ek
    exact ⟨v, .ty T, .type k, .type T, _, rfl, .ty T, by rw [hK, hW]; exact ty, kit_ty (isiB_ok T hT k hk), q _ φ1 H1 s1 (.d (.bl _))⟩
end
/-- the promise of the law, whatever the script -/
def spLaw (K : PySem.W.Frag) (w : World) (T : List Addr) (TL : List (Addr × Str)) (F : List Int -> Fn) : Sp := fun vs H Q E => ∃ a ns, spV ⟨K, w, T, a, ns, TL, none⟩ 1 (F ns) vs H Q E
theorem law_fn {P : Program} {w : World} {K : PySem.W.Frag} {mg : Str -> Option Value} {base : Heap} {T : List Addr} {TL : List (Addr × Str)} {k : Nat} {f : Addr} {fd : FuncData} {x : Str} {F : List Int -> Fn} (h : ∀ a ns, FnG P w K mg base k f fd [x] (spV ⟨K, w, T, a, ns, TL, none⟩ 1 (F ns))) : FnG P w K mg base k f fd [x] (spLaw K w T TL F) :=
  ⟨fun vs H Q E ⟨a, ns, z⟩ => (h a ns).many vs H Q E z, fun A outer s H args us vs Q E r1 r2 r3 r4 r5 ⟨a, ns, z⟩ => (h a ns).runs A outer s H args us vs Q E r1 r2 r3 r4 r5 z⟩
theorem law_start {K : PySem.W.Frag} {w : World} {T : List Addr} {TL : List (Addr × Str)} {F : List Int -> Fn} {a : Addr} {ns : List Int} {H : Hp} {E : XK} {M' : Mem} (ht : ∀ P ∈ T, Tb H P) (hl : ∀ p ∈ TL, p.1 ∉ T /\ H p.1 = some (.tbl #[])) (hs : Scr K H a (ns.map V.int)) (e : F ns [.scr] [] = some (.d (.bool true), M')) :
    spLaw K w T TL F [.ref a] H (fun v _ => v = .bl true) E :=
  ⟨a, ns, fun _ => 0, [], [.scr], _, M', .cons .scr .nil, rfl, ⟨fun i mo e => by simp at e, fun i j hi => by simp at hi, ht, hs, fun p hp => ⟨(hl p hp).1, #[], (hl p hp).2, True.intro, fun pos cv hc => by have z : codeAmong pos [] = some cv := hc; simp [codeAmong] at z⟩⟩, e, fun v φ' H' s r => r.isB⟩
end Va
namespace Va
open PySem PySem.Spec PyProof.Rows L2 Sa
end Va
namespace Sa
open PySem PySem.Spec PyProof.Rows L2
def It2 (K : PySem.W.Frag) (b1 b2 : Bool) (a1 a2 : Addr) : It :=
  ⟨fun i H => ∃ xs ys x y, SqB K H b1 a1 xs /\ SqB K H b2 a2 ys /\ xs[i]? = some x /\ ys[i]? = some y,
   fun i H v H' => ∃ T x y, v = .ref T /\ H T = none /\ H' = upd H T (.tup [x, y]) /\ (∀ xs, SqB K H b1 a1 xs -> xs[i]? = some x) /\ (∀ ys, SqB K H b2 a2 ys -> ys[i]? = some y),
   fun i H => ∃ xs ys, SqB K H b1 a1 xs /\ SqB K H b2 a2 ys /\ i <= xs.length /\ i <= ys.length /\ (i = xs.length ∨ i = ys.length)⟩
def tn2 (b1 b2 : Bool) (a1 a2 z TI TO i1 i2 : Addr) (i : Nat) (h : Heap) : Prop :=
  IsZip h z TI TO .none /\ IsTupOf2 h TI (.ref i1) (.ref i2) /\ (∃ x y, IsTupOf2 h TO x y) /\ ItrB h b1 i1 a1 i /\ ItrB h b2 i2 a2 i
theorem turn_zip2 {P : Program} {w : World} {K : PySem.W.Frag} {elts : List Expr} {kk : Nat} {tpos : Pos} {b1 b2 : Bool} {a1 a2 z TI TO i1 i2 : Addr} (S : ZipSep2 z TI TO i1 i2 [i1, a1] [i2, a2])
    (n1 : a1 ≠ i1) (n2 : a2 ≠ i2) :
    Turn P w K (.Tuple elts kk tpos) (It2 K b1 b2 a1 a2) [z, TI, TO, i1, i2] z (tn2 b1 b2 a1 a2 z TI TO i1 i2) := by
  refine turn_gives (by simp) (fun i h st c hc => ?_) (fun i h h' st k => ?_) (fun X hP hw hK hc i pins s σ H I st hg => ?_) (fun X hP hw hK hc i pins s σ H I st hg => ?_) (fun A i s Q E st h => wpAny_pyIter_zip st.1 h)
  · obtain ⟨hz, hTI, ⟨x, y, hTO⟩, q1, q2⟩ := st
    have e' : c = z ∨ c = TI ∨ c = TO ∨ c = i1 ∨ c = i2 := by simpa using hc
    rcases e' with q | q | q | q | q
    · rw [q]; exact ⟨_, hz, fun v => nofun⟩
    · rw [q]; exact ⟨_, hTI, fun v => nofun⟩
    · rw [q]; exact ⟨_, hTO, fun v => nofun⟩
    · rw [q]; exact q1.obj
    · rw [q]; exact q2.obj
  · obtain ⟨hz, hTI, ⟨x, y, hTO⟩, q1, q2⟩ := st
    exact ⟨k z (by simp) _ hz, k TI (by simp) _ hTI, ⟨x, y, k TO (by simp) _ hTO⟩, q1.at fun o e => k i1 (by simp) o e, q2.at fun o e => k i2 (by simp) o e⟩
  · obtain ⟨xs, ys, x, y, s1, s2, e1, e2⟩ := hg
    subst hK
    obtain ⟨its1, r1, p1, z1, _⟩ := seqB I s1
    obtain ⟨its2, r2, p2, z2, _⟩ := seqB I s2
    obtain ⟨v1, g1, rv1⟩ := r1.get e1
    obtain ⟨v2, g2, rv2⟩ := r2.get e2
    have hh : X.A.in1.handled = none := I.ok.hd hc
    obtain ⟨hz, hTI, hTO, q1, q2⟩ := st
    refine ⟨_, _, _, _, _, _, WalksT.zipD2 S (drawsB hh b1 i1 a1 n1 its1.toArray) (drawsB hh b2 i2 a2 n2 its2.toArray), ⟨hz, hTI, hTO, ⟨q1, p1⟩, ⟨q2, p2⟩⟩, ?_, fun c hcm => ?_, fun h' st' => ?_, fun vals hv => ?_⟩
    · have l1 := (List.getElem?_eq_some_iff.mp g1).1
      have l2 := (List.getElem?_eq_some_iff.mp g2).1
      simp only [List.size_toArray]
      omega
    · have e' : c = z ∨ c = TO ∨ c = i1 ∨ c = i2 := by simpa using hcm
      rcases e' with q | q | q | q <;> simp [q]
    · obtain ⟨a, b, c, d1, d2⟩ := st'
      exact ⟨a, b, c, d1.1, d2.1⟩
    · obtain ⟨w1, w2, h1, h2, rfl⟩ := hv
      have f1 : w1 = v1 := by simp only [List.getElem?_toArray, g1] at h1; exact (Option.some.inj h1).symm
      have f2 : w2 = v2 := by simp only [List.getElem?_toArray, g2] at h2; exact (Option.some.inj h2).symm
      subst f1 f2
      refine ⟨[x, y], .cons rv1 (.cons rv2 .nil), by show 2 <= sizeLine; decide, fun T hT => ⟨T, x, y, rfl, hT, rfl, fun l hl => ?_, fun l hl => ?_⟩⟩
      · rw [injB I hl s1]; exact e1
      · rw [injB I hl s2]; exact e2
  · obtain ⟨xs, ys, s1, s2, k1, k2, hend⟩ := hg
    subst hK
    obtain ⟨its1, r1, p1, z1, _⟩ := seqB I s1
    obtain ⟨its2, r2, p2, z2, _⟩ := seqB I s2
    have l1 := r1.length
    have l2 := r2.length
    have hh : X.A.in1.handled = none := I.ok.hd hc
    obtain ⟨hz, hTI, hTO, q1, q2⟩ := st
    have en : min its1.toArray.size its2.toArray.size = i := by
      simp only [List.size_toArray]
      omega
    refine ⟨_, _, _, _, _, _, WalksT.zipD2 S (drawsB hh b1 i1 a1 n1 its1.toArray) (drawsB hh b2 i2 a2 n2 its2.toArray), ?_, fun c hcm => ?_⟩
    · rw [en]
      exact ⟨hz, hTI, hTO, ⟨q1, p1⟩, ⟨q2, p2⟩⟩
    · have e' : c = z ∨ c = TO ∨ c = i1 ∨ c = i2 := by simpa using hcm
      rcases e' with q | q | q | q <;> simp [q]
def iZip2 (K : PySem.W.Frag) (ta : TA) : TI := fun σ H R => ta σ H fun vs H1 => ∃ a1 a2 b1 b2 xs ys, vs = [.ref a1, .ref a2] /\ SqB K H1 b1 a1 xs /\ SqB K H1 b2 a2 ys /\ R (It2 K b1 b2 a1 a2) H1
theorem pi_zip2 {X : Cx} {e e2 : Expr} {ta : TA} {p pos tpos : Pos} {elts : List Expr} {kk : Nat} (hg : Gl X "zip") (hm : X.mg "zip" = none) (ha : PA X [e, e2] ta)
    (hs : starEach [e, e2] X.env = (false, eval e X.env) :: starEach [e2] X.env := by rfl) (hpl : (backTo pos (starEach [e2] X.env)).any (·.1) = false := by rfl) :
    PI X (.Tuple elts kk tpos) (.Call (.Name "zip" p) [e, e2] [] pos) (iZip2 X.K ta) := by
  refine ⟨fun pins s σ H R I h => ?_⟩
  refine Call_ (ld_blt I hg hm PyProof.Rows.boot_zip (PyProof.Rows.callWith_type1 (thn (ha.run pos pins s σ H _ I h) fun us s1 ⟨vs, H1, I1, rel, q⟩ => ?_) hs hpl))
  obtain ⟨a1, a2, b1, b2, xs, ys, ex, q1, q2, hR⟩ := q
  subst ex
  obtain ⟨its1, _, p1, _, lt1⟩ := seqB I1 q1
  obtain ⟨its2, _, p2, _, lt2⟩ := seqB I1 q2
  cases rel with
  | cons r rel =>
    cases rel with
    | cons r' rel =>
        cases rel
        cases r
        cases r'
        refine zip_begins2 (beginsB b1 a1 its1.toArray) (beginsB b2 a2 its2.toArray) p1 p2 fun h' hz hTI hTO o1 o2 hsz hk => wpAny_pyIter_zip hz ?_
        have I2 : Inv X pins σ H1 { s1 with heap := h' } := I1.kept (t' := s1.toks) hk
        refine ⟨s1.heap.objs.size + 4, [s1.heap.objs.size + 4, s1.heap.objs.size + 2, s1.heap.objs.size + 3, s1.heap.objs.size, s1.heap.objs.size + 1], _, _, H1, rfl, I2,
          turn_zip2 (b1 := b1) (b2 := b2) (zip_sep2 (N := s1.heap.objs.size) (fp1 := [a1]) (fp2 := [a2]) (fun b hb => by rw [List.mem_singleton.mp hb]; exact lt1) (fun b hb => by rw [List.mem_singleton.mp hb]; exact lt2))
            (Nat.ne_of_lt lt1) (Nat.ne_of_lt (Nat.lt_succ_of_lt lt2)),
          ⟨hz, hTI, ⟨_, _, hTO⟩, itrB_new o1, itrB_new o2⟩, fun c hcm => ?_, hR⟩
        have hle : s1.heap.objs.size <= c := by
          have e' : c = s1.heap.objs.size + 4 ∨ c = s1.heap.objs.size + 2 ∨ c = s1.heap.objs.size + 3 ∨ c = s1.heap.objs.size ∨ c = s1.heap.objs.size + 1 := by simpa using hcm
          rcases e' with q | q | q | q | q <;> rw [q] <;> first | exact Nat.le_refl _ | exact Nat.le_add_right _ _
        exact I1.fpOk hle (I1.hok.fresh hle)
end Sa
set_option maxHeartbeats 3200000
namespace Va
open PySem PySem.Spec PyProof.Rows L2 Sa
section
mutual
def deepD (M : Mem) : Nat -> W -> Option PyData
  | _, .d x => some x
  | n + 1, .obj i => match M[i]? with
    | some (.lst ws) => (deepAll M n ws).map PyData.list
    | _ => none
  | _, _ => none
def deepAll (M : Mem) : Nat -> List W -> Option (List PyData)
  | _, [] => some []
  | n, w :: ws => (deepD M n w).bind fun d => (deepAll M n ws).map fun ds => d :: ds
end
mutual
theorem deepD_rel {φ : Nat -> Addr} {M : Mem} {H : Hp} (sim : Sim C φ M H) : ∀ (n : Nat) (w : W) (v : V) (d : PyData), Rw C φ M.length H v w -> deepD M n w = some d -> Dp C.K H v d
  | n, .d x, v, d, r, e => by
    cases n <;> (simp only [deepD, Option.some.injEq] at e; subst e; cases r with | d r => exact r.dp)
  | n + 1, .obj i, v, d, r, e => by
    simp only [deepD] at e
    obtain ⟨rfl, _⟩ := r.isO
    split at e
    · rename_i ws hws
      rw [Option.map_eq_some_iff] at e
      obtain ⟨ds, e, rfl⟩ := e
      obtain ⟨vs, hv, rr⟩ := sim.ob _ _ hws
      exact .lst (SqL.of hv) (deepAll_rel sim n ws vs ds rr e)
    · cases e
  | 0, .obj i, v, d, r, e => by simp [deepD] at e
  | 0, .scr, v, d, r, e => by simp [deepD] at e
  | 0, .pack _, v, d, r, e => by simp [deepD] at e
  | 0, .fn, v, d, r, e => by simp [deepD] at e
  | n + 1, .scr, v, d, r, e => by simp [deepD] at e
  | n + 1, .pack _, v, d, r, e => by simp [deepD] at e
  | n + 1, .fn, v, d, r, e => by simp [deepD] at e
theorem deepAll_rel {φ : Nat -> Addr} {M : Mem} {H : Hp} (sim : Sim C φ M H) : ∀ (n : Nat) (ws : List W) (vs : List V) (ds : List PyData), RwAll C φ M.length H vs ws -> deepAll M n ws = some ds -> DpAll C.K H vs ds
  | n, [], vs, ds, r, e => by
    simp only [deepAll, Option.some.injEq] at e
    subst e
    cases r
    exact .nil
  | n, w :: ws, vs, ds, r, e => by
    simp only [deepAll] at e
    obtain ⟨d, e1, e3⟩ := bsome e
    rw [Option.map_eq_some_iff] at e3
    obtain ⟨ds, e2, rfl⟩ := e3
    cases r with
    | cons r1 r2 => exact .cons (deepD_rel sim n w _ d r1 e1) (deepAll_rel sim n ws _ ds r2 e2)
end
/-- == of lists of data -/
def eqL (M : Mem) (a b : W) : Option Bool := (deepD M 3 a).bind fun x => (deepD M 3 b).bind fun y => if (SeqAt.shaped x && SeqAt.shaped y) = true then some (PyData.eqv x y) else none
theorem eqL_of {φ : Nat -> Addr} {M : Mem} {H : Hp} {x y : V} {a b : W} {k : Bool} (sim : Sim C φ M H) (rx : Rw C φ M.length H x a) (ry : Rw C φ M.length H y b) (e : eqL M a b = some k) :
    ∃ d e, Dp C.K H x d /\ Dp C.K H y e /\ SeqAt.shaped d = true /\ SeqAt.shaped e = true /\ PyData.eqv d e = k := by
  obtain ⟨d, e1, e⟩ := bsome e
  obtain ⟨d2, e2, e⟩ := bsome e
  split at e
  · rename_i hs
    rw [Bool.and_eq_true] at hs
    cases e
    exact ⟨d, d2, deepD_rel sim 3 a x d rx e1, deepD_rel sim 3 b y d2 ry e2, hs.1, hs.2, rfl⟩
  · cases e
def oEqL : O2 := fun a b M => (eqL M a b).map fun k => (.d (.bool k), M)
def oNeL : O2 := fun a b M => (eqL M a b).map fun k => (.d (.bool (!k)), M)
theorem vo_eqL : VO2 C (rEqD C.K) oEqL := by
  intro φ M H x y a b w M' Q sim rx ry e q
  simp only [oEqL, Option.map_eq_some_iff] at e
  obtain ⟨k, ek, e⟩ := e
  cases e
  obtain ⟨d, d2, h1, h2, h3, h4, rfl⟩ := eqL_of sim rx ry ek
  exact ⟨d, d2, h1, h2, h3, h4, q _ φ H (.refl sim) (.d (.bl _))⟩
theorem vo_neL : VO2 C (rNeD C.K) oNeL := by
  intro φ M H x y a b w M' Q sim rx ry e q
  simp only [oNeL, Option.map_eq_some_iff] at e
  obtain ⟨k, ek, e⟩ := e
  cases e
  obtain ⟨d, d2, h1, h2, h3, h4, rfl⟩ := eqL_of sim rx ry ek
  exact ⟨d, d2, h1, h2, h3, h4, q _ φ H (.refl sim) (.d (.bl _))⟩
/-- x in l, l a list of data -/
def inL (M : Mem) (a b : W) : Option Bool := match a with
  | .d x => (lstAt M b).bind fun l => (deepAll M 0 l.2).bind fun ds => if (SeqAt.shaped x && SeqAt.shaped (.list ds)) = true then some (ds.any fun z => PyData.eqv z x) else none
  | _ => none
def oNotInL : O2 := fun a b M => (inL M a b).map fun k => (.d (.bool (!k)), M)
/-- a text in a tuple of texts -/
def strsOf : List PyData -> Option (List Str)
  | [] => some []
  | .str x :: r => (strsOf r).map fun xs => x :: xs
  | _ => none
theorem strs_rel {K : PySem.W.Frag} {H : Hp} : ∀ {vs : List V} {ds : List PyData} {xs : List Str}, RpAll K H vs ds -> strsOf ds = some xs -> vs = xs.map V.str
  | _, _, _, .nil, e => by simp only [strsOf, Option.some.injEq] at e; subst e; rfl
  | _, _, _, .cons (v := v) (d := d) a r, e => by
    cases a with
    | str x =>
      simp only [strsOf, Option.map_eq_some_iff] at e
      obtain ⟨ys, e, rfl⟩ := e
      rw [strs_rel r e]
      rfl
    | _ => simp [strsOf] at e
theorem flat_strs : ∀ (xs : List Str), (xs.map V.str).all flatV = true
  | [] => rfl
  | x :: xs => by rw [List.map_cons, List.all_cons, flat_strs xs]; rfl
theorem in_strs (x : Str) : ∀ (xs : List Str), inV (.str x) (xs.map V.str) = decide (x ∈ xs)
  | [] => by simp [inV]
  | y :: xs => by
    have h := in_strs x xs
    simp only [inV] at h
    simp only [inV, List.map_cons, List.any_cons, h]
    have : eqV (V.str y) (V.str x) = decide (y = x) := by
      simp only [eqV]
      by_cases e : y = x
      · subst e; simp
      · rw [decide_eq_false e]; exact beq_eq_false_iff_ne.mpr e
    rw [this]
    by_cases e : y = x
    · subst e; simp
    · have e' : ¬ x = y := fun z => e z.symm
      simp [e, e']
end
theorem zip2W_get : ∀ (xs ys : List W) (k : Nat) (w : W), (zip2W xs ys)[k]? = some w -> ∃ x y, xs[k]? = some x /\ ys[k]? = some y /\ w = mkTup [x, y]
  | x :: xs, y :: ys, 0, w, e => ⟨x, y, rfl, rfl, by simp [zip2W] at e; exact e.symm⟩
  | x :: xs, y :: ys, k + 1, w, e => by
    obtain ⟨a, b, h1, h2, h4⟩ := zip2W_get xs ys k w (by simpa [zip2W] using e)
    exact ⟨a, b, by simpa using h1, by simpa using h2, h4⟩
  | [], _, _, _, e => by simp [zip2W] at e
  | _ :: _, [], _, _, e => by simp [zip2W] at e
theorem zip2W_length : ∀ (xs ys : List W), xs.length = ys.length -> (zip2W xs ys).length = xs.length
  | [], _, _ => by simp [zip2W]
  | x :: xs, [], h => by simp at h
  | x :: xs, y :: ys, h => by simp only [zip2W, List.length_cons]; rw [zip2W_length xs ys (by simpa using h)]
def iZip2W (a : EvA) : EvI := fun ρ M => (a ρ M).bind fun p => match p.1 with
  | [x, y] => (srcOf p.2 x).bind fun s1 => (srcOf p.2 y).bind fun s2 =>
    if s1.1.length = s2.1.length then some ((zip2W s1.1 s2.1, s1.2 ++ s2.2), p.2) else none
  | _ => none
theorem walk_zip2 {K : PySem.W.Frag} {b1 b2 : Bool} {a1 a2 : Addr} {xs ys : List V} (e2 : xs.length = ys.length) :
    Walk (It2 K b1 b2 a1 a2) xs.length (fun H => SqB K H b1 a1 xs /\ SqB K H b2 a2 ys)
      (fun i H v H' => ∃ T x y, v = .ref T /\ H T = none /\ H' = upd H T (.tup [x, y]) /\ xs[i]? = some x /\ ys[i]? = some y) where
  goes := fun i H hi ⟨q1, q2⟩ => ⟨xs, ys, _, _, q1, q2, List.getElem?_eq_getElem hi, List.getElem?_eq_getElem (by omega)⟩
  stops := fun H ⟨q1, q2⟩ => ⟨xs, ys, q1, q2, Nat.le_refl _, by omega, .inl rfl⟩
  yields := fun i H v H' hi ⟨q1, q2⟩ ⟨T, x, y, ev, nT, eH, f1, f2⟩ => ⟨T, x, y, ev, nT, eH, f1 xs q1, f2 ys q2⟩
section
variable {C : Ck} {X : Cx} {fs : EvA} {pos p : Pos}
theorem qi_zip2 {e1 e2 : Expr} {elts : List Expr} {kk : Nat} {tpos : Pos} (hK : X.K = C.K) (h : PI X (.Tuple elts kk tpos) (.Call (.Name "zip" p) [e1, e2] [] pos) (iZip2 X.K (taOf C fs))) : PI X (.Tuple elts kk tpos) (.Call (.Name "zip" p) [e1, e2] [] pos) (tiOf C (iZip2W fs)) :=
  h.weak fun σ H R ⟨ρ, φ, M, s, M', env, sim, e, q⟩ => by
    obtain ⟨⟨ws, M1⟩, ea, e⟩ := bsome e
    simp only at e
    split at e
    · rename_i x y
      obtain ⟨s1, f1, e⟩ := bsome e
      obtain ⟨s2, f2, e⟩ := bsome e
      split at e
      · rename_i hl
        cases e
        refine ⟨ρ, φ, M, _, _, env, sim, ea, fun v φ1 H1 st r1 => ?_⟩
        cases r1 with | cons r1 r => cases r with | cons r2 r =>
        cases r
        obtain ⟨b1, a1, v1, rfl, q1, w1, k1⟩ := src_rel st.sim r1 f1
        obtain ⟨b2, a2, v2, rfl, q2, w2, k2⟩ := src_rel st.sim r2 f2
        refine ⟨a1, a2, b1, b2, v1, v2, rfl, by rw [hK]; exact q1, by rw [hK]; exact q2, q _ φ1 H1 st ?_⟩
        rw [hK]
        intro φ2 M2 H2 s2' d
        obtain ⟨u1, t1, g1⟩ := k1 φ2 M2 H2 s2' d.left
        obtain ⟨u2, t2, g2⟩ := k2 φ2 M2 H2 s2' d.right
        have l2 : u1.length = u2.length := by rw [g1.length, g2.length]; exact hl
        have w := walk_zip2 (K := C.K) (b1 := b1) (b2 := b2) (a1 := a1) (a2 := a2) l2
        have lz : (zip2W s1.1 s2.1).length = u1.length := by rw [zip2W_length _ _ hl, g1.length]
        refine ⟨fun k w' hk => ?_, by rw [lz]; exact w.stops H2 ⟨t1, t2⟩⟩
        have hlt : k < u1.length := by rw [<- lz]; exact (List.getElem?_eq_some_iff.mp hk).1
        refine ⟨w.goes k H2 hlt ⟨t1, t2⟩, fun x H' y => ?_⟩
        obtain ⟨T, x1, x2, rfl, nT, rfl, i1, i2⟩ := w.yields k H2 x H' hlt ⟨t1, t2⟩ y
        obtain ⟨z1, z2, j1, j2, rfl⟩ := zip2W_get _ _ _ _ hk
        have s3' := Step.tup (o := .tup [x1, x2]) s2'.sim nT
        obtain ⟨m1, n1, o1⟩ := g1.get' i1
        obtain ⟨m2, n2, o2⟩ := g2.get' i2
        rw [j1] at n1; cases n1
        rw [j2] at n2; cases n2
        exact ⟨s3', .tup (SqT.of upd_same) ((RwAll.cons o1 (.cons o2 .nil)).step s3')⟩
      · cases e
    · cases e
end
end Va
set_option maxHeartbeats 1000000
namespace Va
open PySem PySem.Spec PyProof.Rows L2 Sa
end Va
namespace Va
open PySem PySem.Spec PyProof.Rows L2 Sa Gn
open Classical in
/-- all (b0 = true), any (b0 = false) of the generator -/
noncomputable def gaL (b0 : Bool) (deps : List (Nat × MO)) (g : EvG) (t : EvT) (e : EvE) (ρ0 : Ev) : Nat -> List W -> Mem -> Option (Bool × Mem)
  | _, [], M => if Deps deps M then some (b0, M) else none
  | 0, _ :: _, _ => none
  | n + 1, w :: ws, M => if Deps deps M then (g w ρ0).bind fun ρ1 => (t ρ1 M).bind fun p => if p.1 = true then (e ρ1 p.2).bind fun y => (asB y.1).bind fun b =>
      if b = b0 then gaL b0 deps g t e ρ0 n ws y.2 else some (!b0, y.2)
    else gaL b0 deps g t e ρ0 (n + 1) ws p.2 else none
noncomputable def eAllX (b0 : Bool) (fi : EvI) (g : EvG) (t : EvT) (e : EvE) (vs : List Nat) : EvE := fun ρ M => (fi ρ M).bind fun p =>
  (gaL b0 p.1.2 g t e (wipeW ρ vs) sizeLine p.1.1 p.2).bind fun q => some (.d (.bool q.1), q.2)
section
variable {C : Ck} {P : Addr} {fi : EvI} {g : EvG} {ft : EvT} {fe : EvE} {vs is : List Nat}
theorem allX_of {b0 : Bool} (hP : P ∈ C.T) (hv : ∀ i ∈ is, i ∈ vs) {σ : L2.St} {H : Hp} {Q : VK} (h : tOf C (eAllX b0 fi g ft fe vs) σ H Q) : tGx P (tiOf C fi) (uAll b0 (tgOf C is g) (ttOf C ft) (tOf C fe) vs) σ H Q := by
  obtain ⟨ρ, φ, M, w, M', env, sim, e, q⟩ := h
  obtain ⟨⟨⟨items, deps⟩, M1⟩, e1, e⟩ := bsome e
  obtain ⟨⟨rb, Mz⟩, e2, e⟩ := bsome e
  cases e
  refine ⟨ρ, φ, M, _, M1, env, sim, e1, fun J φ1 H1 s1 ok => ⟨s1.sim.tab P hP, fun H2 tb => ?_⟩⟩
  have s2 := Step.tab s1.sim hP tb
  refine ⟨fun i m ys Hx => ∃ φ M ws, m = ws.length /\ items.drop i = ws /\ i <= items.length /\ Step C φ1 M1 H2 φ M Hx /\ ys.length <= sizeLine /\ gaL b0 deps g ft fe (wipeW ρ vs) (sizeLine - ys.length) ws M = some (rb, Mz),
    ?_, items.length, φ1, M1, items, rfl, rfl, Nat.zero_le _, .refl s2.sim, Nat.zero_le _, e2⟩
  intro i m ys Hx ⟨φ3, M3, ws, hm, hd, hi, s3, le, e3⟩
  have s13 : Step C φ1 M1 H1 φ3 M3 Hx := s2.trans s3
  have s03 : Step C φ M H φ3 M3 Hx := s1.trans s13
  cases ws with
  | nil =>
    have hn : i = items.length := by
      have := congrArg List.length hd
      simp at this
      omega
    unfold gaL at e3
    split at e3
    case isFalse => cases e3
    rename_i dp
    cases e3
    exact .inl ⟨by rw [hn]; exact (ok φ3 _ Hx s13 dp).2, q _ φ3 _ s03 (.d (.bl _))⟩
  | cons w ws =>
    cases hz : sizeLine - ys.length with
    | zero => rw [hz] at e3; unfold gaL at e3; cases e3
    | succ n =>
    rw [hz] at e3
    unfold gaL at e3
    split at e3
    case isFalse => cases e3
    rename_i dp
    obtain ⟨ρ4, e4, e3⟩ := bsome e3
    obtain ⟨⟨k, M5⟩, e5, e3⟩ := bsome e3
    have hk : items[i]? = some w := by
      have : (items.drop i)[0]? = some w := by rw [hd]; rfl
      simpa using this
    have hlt : i < items.length := (List.getElem?_eq_some_iff.mp hk).1
    have hd' : items.drop (i + 1) = ws := by
      rw [<- List.drop_drop, hd]; rfl
    obtain ⟨go, yl⟩ := (ok φ3 M3 Hx s13 dp).1 i w hk
    refine .inr ⟨go, fun ys' H' => ∃ φ M, Step C φ1 M1 H2 φ M H' /\ ys'.length <= sizeLine /\ gaL b0 deps g ft fe (wipeW ρ vs) (sizeLine - ys'.length) ws M = some (rb, Mz), fun ys' H' ⟨φ, M, h1, h2, h3⟩ => ⟨ws.length, by rw [hm]; exact Nat.lt_succ_self _, φ, M, ws, rfl, hd', hlt, h1, h2, h3⟩, fun x H' hy => ?_⟩
    obtain ⟨st, rx⟩ := yl x H' hy
    have s0 : Step C φ M H φ3 M3 H' := s03.trans st
    refine ⟨wipeW ρ vs, φ3, M3, w, ρ4, (env.step s0).wipe vs, st.sim, rx, e4, fun σ4 env4 on4 => ⟨wipe_only hv on4, ρ4, φ3, M3, k, M5, env4, st.sim, e5, fun φ5 H5 s5 => ?_⟩⟩
    cases k with
    | false =>
      refine ⟨φ5, M5, s3.trans (st.trans s5), le, ?_⟩
      rw [hz]
      exact e3
    | true =>
      obtain ⟨⟨y, M6⟩, e6, e3⟩ := bsome e3
      obtain ⟨b, eb, e3⟩ := bsome e3
      refine ⟨ρ4, φ5, M5, y, M6, env4.step s5, s5.sim, e6, fun v φ6 H6 s6 r6 => ⟨by omega, b, isB_of eb r6, ?_⟩⟩
      split at e3
      · rename_i same
        rw [if_pos same]
        refine ⟨φ6, M6, s3.trans (st.trans (s5.trans s6)), by rw [List.length_append]; simp; omega, ?_⟩
        have : sizeLine - (ys ++ [v]).length = n := by rw [List.length_append]; simp; omega
        rw [this]
        exact e3
      · rename_i other
        rw [if_neg other]
        cases e3
        exact q _ φ6 _ (s03.trans (st.trans (s5.trans s6))) (.d (.bl _))
end
section
variable {C : Ck} {X : Cx} {c P : Addr} {elt tg iter : Expr} {ifs : List Expr} {gpos p pos : Pos} {scope : Scope} {own : List (Str × Nat)} {fi : EvI} {g : EvG} {ft : EvT} {fe : EvE} {is : List Nat} {k : Nat}
def gscC (scope : Scope) : Bool := !scope.isCoroutine && (scope.names.all fun y => match y.2 with | .cell => false | _ => true) && (match scope.names.lookup (".0" : Str) with | some .local => true | _ => false)
theorem gsc_by (h : gscC scope = true) : GSc scope := by
  unfold gscC at h
  simp only [Bool.and_eq_true, Bool.not_eq_true', List.all_eq_true] at h
  obtain ⟨⟨h1, h2⟩, h3⟩ := h
  refine ⟨h1, fun y hy e => ?_, ?_⟩
  · have := h2 y hy
    rw [e] at this
    cases this
  · split at h3
    · assumption
    · cases h3
theorem q_allX {nm : Str} {b0 : Bool} (hb : nm = "all" /\ b0 = true ∨ nm = "any" /\ b0 = false) (hr : Room (k + 1) X.A) (hf : Free X.A) (hc : X.calm = true) (hN : X.N.Nodup) (hgl : Gl X nm) (hm : X.mg nm = none) (TB : LamX.TabB X.base X.mg c P) (hP : P ∈ C.T) (hcode : X.env.code = .ref c) (S : GSc scope) (ok : BlkOk X.N X.env.scope scope own) (hi : PI X tg iter (tiOf C fi)) (hv : ∀ i ∈ is, i ∈ own.map (·.2))
    (hg : InG X scope k fun Y => PG Y tg (tgOf C is g)) (ht : InG X scope k fun Y => PTs Y ifs (ttOf C ft)) (he : InG X scope k fun Y => PE Y elt (tOf C fe)) (hs : ∀ v, genFold iter X.env v = pure v := by intro _; rfl)
    (hz : starEach [gexp elt tg iter ifs scope gpos] X.env = (false, eval (gexp elt tg iter ifs scope gpos) X.env) :: starEach [] X.env := by rfl) :
    PE X (.Call (.Name nm p) [gexp elt tg iter ifs scope gpos] [] pos) (tOf C (eAllX b0 fi g ft fe (own.map (·.2)))) :=
  (pe_allX hb hr hf hc hN hgl hm TB hcode S ok hi hg ht he hs hz).weak fun _ _ _ h => allX_of hP hv h
end
end Va
set_option maxHeartbeats 3200000
namespace Gn
open PySem PySem.Spec PyProof.Rows L2 Sa
end Gn
namespace Va
open PySem PySem.Spec PyProof.Rows L2 Sa Gn
/-- an int, or a truth as one -/
def asN : W -> Option Int
  | .d (.int i) => some i
  | .d (.bool b) => some (b2i b)
  | _ => none
end Va
set_option maxHeartbeats 1000000
namespace Va
open PySem PySem.Spec PyProof.Rows L2 Sa Gn
open Classical in
/-- the ints that the generator gives, acc ahead -/
noncomputable def gmL (deps : List (Nat × MO)) (g : EvG) (t : EvT) (e : EvE) (ρ0 : Ev) : Nat -> List Int -> List W -> Mem -> Option (List Int × Mem)
  | _, acc, [], M => if Deps deps M then some (acc, M) else none
  | 0, _, _ :: _, _ => none
  | n + 1, acc, w :: ws, M => if Deps deps M then (g w ρ0).bind fun ρ1 => (t ρ1 M).bind fun p => if p.1 = true then (e ρ1 p.2).bind fun y => (asI y.1).bind fun i => gmL deps g t e ρ0 n (acc ++ [i]) ws y.2
    else gmL deps g t e ρ0 (n + 1) acc ws p.2 else none
noncomputable def eMaxX (fi : EvI) (g : EvG) (t : EvT) (e : EvE) (vs : List Nat) : EvE := fun ρ M => (fi ρ M).bind fun p =>
  (gmL p.1.2 g t e (wipeW ρ vs) sizeLine [] p.1.1 p.2).bind fun q => if q.1 = [] then none else some (.d (.int (maxI q.1)), q.2)
section
variable {C : Ck} {P : Addr} {fi : EvI} {g : EvG} {ft : EvT} {fe : EvE} {vs is : List Nat}
theorem ints_inj : ∀ {xs ys : List Int}, xs.map V.int = ys.map V.int -> xs = ys
  | [], [], _ => rfl
  | x :: xs, y :: ys, h => by
    simp only [List.map_cons, List.cons.injEq, V.int.injEq] at h
    rw [h.1, ints_inj h.2]
theorem maxX_of (hP : P ∈ C.T) (hv : ∀ i ∈ is, i ∈ vs) {σ : L2.St} {H : Hp} {Q : VK} (h : tOf C (eMaxX fi g ft fe vs) σ H Q) : tGx P (tiOf C fi) (uMax (tgOf C is g) (ttOf C ft) (tOf C fe) vs) σ H Q := by
  obtain ⟨ρ, φ, M, w, M', env, sim, e, q⟩ := h
  obtain ⟨⟨⟨items, deps⟩, M1⟩, e1, e⟩ := bsome e
  obtain ⟨⟨all, Mz⟩, e2, e⟩ := bsome e
  split at e
  case isTrue => cases e
  rename_i some'
  cases e
  refine ⟨ρ, φ, M, _, M1, env, sim, e1, fun J φ1 H1 s1 ok => ⟨s1.sim.tab P hP, fun H2 tb => ?_⟩⟩
  have s2 := Step.tab s1.sim hP tb
  -- i things are walked, ys of them came, acc are their ints
  refine ⟨fun i m ys Hx => ∃ φ M acc, m = items.length - i /\ i <= items.length /\ Step C φ1 M1 H2 φ M Hx /\ ys.length <= sizeLine /\ ys = acc.map V.int /\ gmL deps g ft fe (wipeW ρ vs) (sizeLine - ys.length) acc (items.drop i) M = some (all, Mz),
    ?_, items.length, φ1, M1, [], rfl, Nat.zero_le _, .refl s2.sim, Nat.zero_le _, rfl, e2⟩
  rintro i m ys Hx ⟨φ3, M3, acc, hm, hi, s3, le, ey, e3⟩
  have s13 : Step C φ1 M1 H1 φ3 M3 Hx := s2.trans s3
  have s03 : Step C φ M H φ3 M3 Hx := s1.trans s13
  rcases Nat.lt_or_ge i items.length with hlt | hge
  · have hd : items.drop i = items[i] :: items.drop (i + 1) := List.drop_eq_getElem_cons hlt
    have hk : items[i]? = some items[i] := List.getElem?_eq_getElem hlt
    rw [hd] at e3
    generalize items[i] = w at e3 hk
    cases room : sizeLine - ys.length with
    | zero => rw [room] at e3; unfold gmL at e3; cases e3
    | succ n =>
      rw [room] at e3
      unfold gmL at e3
      split at e3
      case isFalse => cases e3
      rename_i dp
      obtain ⟨ρ4, e4, e3⟩ := bsome e3
      obtain ⟨⟨k, M5⟩, e5, e3⟩ := bsome e3
      obtain ⟨go, yl⟩ := (ok φ3 M3 Hx s13 dp).1 i w hk
      refine .inr ⟨go, fun ys' H' => ∃ φ M acc, Step C φ1 M1 H2 φ M H' /\ ys'.length <= sizeLine /\ ys' = acc.map V.int /\ gmL deps g ft fe (wipeW ρ vs) (sizeLine - ys'.length) acc (items.drop (i + 1)) M = some (all, Mz),
        fun ys' H' ⟨φ, M, acc, h⟩ => ⟨items.length - (i + 1), by omega, φ, M, acc, rfl, hlt, h⟩, fun x H' hy => ?_⟩
      obtain ⟨st, rx⟩ := yl x H' hy
      refine ⟨wipeW ρ vs, φ3, M3, w, ρ4, (env.step (s03.trans st)).wipe vs, st.sim, rx, e4, fun σ4 env4 on4 => ⟨wipe_only hv on4, ρ4, φ3, M3, k, M5, env4, st.sim, e5, fun φ5 H5 s5 => ?_⟩⟩
      cases k with
      | false =>
        refine ⟨φ5, M5, acc, s3.trans (st.trans s5), le, ey, ?_⟩
        rw [room]
        exact e3
      | true =>
        obtain ⟨⟨y, M6⟩, e6, e3⟩ := bsome e3
        obtain ⟨j, ej, e3⟩ := bsome e3
        cases asI_eq ej
        refine ⟨ρ4, φ5, M5, _, M6, env4.step s5, s5.sim, e6, fun v φ6 H6 s6 r6 => ?_⟩
        cases r6.isI
        have n' : sizeLine - (ys ++ [V.int j]).length = n := by rw [List.length_append]; simp; omega
        exact ⟨by omega, ⟨j, rfl⟩, φ6, M6, acc ++ [j], s3.trans (st.trans (s5.trans s6)), by rw [List.length_append]; simp; omega, by rw [ey]; simp, by rw [n']; exact e3⟩
  · have hn : i = items.length := Nat.le_antisymm hi hge
    rw [List.drop_eq_nil_of_le hge] at e3
    unfold gmL at e3
    split at e3
    case isFalse => cases e3
    rename_i dp
    cases e3
    refine .inl ⟨by rw [hn]; exact (ok φ3 _ Hx s13 dp).2, fun none' => ?_, fun js m ej mem top => ?_⟩
    · rw [ey] at none'
      exact some' (List.map_eq_nil_iff.mp none')
    · rw [ey] at ej
      have same := ints_inj ej
      subst same
      have z := q (.int (maxI all)) φ3 _ s03 (.d (.int _))
      rwa [maxI_one mem top] at z
end
section
variable {C : Ck} {X : Cx} {c P : Addr} {elt tg iter : Expr} {ifs : List Expr} {gpos p pos : Pos} {scope : Scope} {own : List (Str × Nat)} {fi : EvI} {g : EvG} {ft : EvT} {fe : EvE} {is : List Nat} {k : Nat}
theorem q_maxX (hr : Room (k + 1) X.A) (hf : Free X.A) (hc : X.calm = true) (hN : X.N.Nodup) (hgl : Gl X "max") (hm : X.mg "max" = none) (TB : LamX.TabB X.base X.mg c P) (hP : P ∈ C.T) (hcode : X.env.code = .ref c) (S : GSc scope) (ok : BlkOk X.N X.env.scope scope own) (hi : PI X tg iter (tiOf C fi)) (hv : ∀ i ∈ is, i ∈ own.map (·.2))
    (hg : InG X scope k fun Y => PG Y tg (tgOf C is g)) (ht : InG X scope k fun Y => PTs Y ifs (ttOf C ft)) (he : InG X scope k fun Y => PE Y elt (tOf C fe)) (hs : ∀ v, genFold iter X.env v = pure v := by intro _; rfl)
    (hz : starEach [gexp elt tg iter ifs scope gpos] X.env = (false, eval (gexp elt tg iter ifs scope gpos) X.env) :: starEach [] X.env := by rfl) :
    PE X (.Call (.Name "max" p) [gexp elt tg iter ifs scope gpos] [] pos) (tOf C (eMaxX fi g ft fe (own.map (·.2)))) :=
  (pe_maxX hr hf hc hN hgl hm TB hcode S ok hi hg ht he hs hz).weak fun _ _ _ h => maxX_of hP hv h
end
section
variable {C : Ck} {X : Cx} {fi : EvE} {i : Nat} {x : Str} {e : Expr}
/-- a function may be put for another one that tells the same where the slots are there -/
theorem q_alt {f f' : EvE} (hx : X.N[i]? = some x) (h : PE X e (tOf C f)) (eq : ∀ ρ M r, i < ρ.length -> f' ρ M = some r -> f ρ M = some r) : PE X e (tOf C f') :=
  ⟨fun pins s σ H Q I ⟨ρ, φ, M, w, M', env, sim, er, q⟩ => h.run pins s σ H Q I ⟨ρ, φ, M, w, M', env, sim, eq ρ M _ (by
    have l1 : ρ.length = σ.length := env.1.symm
    have l2 := I.len
    have l3 := (List.getElem?_eq_some_iff.mp hx).1
    omega) er, q⟩⟩
/-- what is walked, and that it stays -/
theorem iSeq_of {ρ : Ev} {M M1 : Mem} {w : W} {ws : List W} (e : fi ρ M = some (w, M1)) (s : seqOf M1 w = some ws) : ∃ deps, iSeq fi ρ M = some ((ws, deps), M1) /\ Deps deps M1 := by
  unfold iSeq
  rw [e]
  cases w with
  | obj j =>
    have s : (match M1[j]? with | some (.lst us) => some us | _ => none) = some ws := s
    cases h : M1[j]? with
    | none => rw [h] at s; cases s
    | some o =>
      cases o with
      | lst us =>
        rw [h] at s
        cases s
        exact ⟨[(j, .lst ws)], by simp [lstAt, h], by simpa using h⟩
      | _ => rw [h] at s; cases s
  | d y => exact ⟨[], by simp only [Option.bind_some]; rw [show tupOf (.d y) = some ws from s]; rfl, .nil⟩
  | pack us => exact ⟨[], by simp only [Option.bind_some]; rw [show tupOf (.pack us) = some ws from s]; rfl, .nil⟩
  | scr => cases s
  | fn => cases s
theorem slot_set {ρ : Ev} {w : W} (h : i < ρ.length) : eVar i (ρ.set i (some w)) M = some (w, M) := by
  unfold eVar
  rw [List.getElem?_set_self h]
theorem gm_abs {deps : List (Nat × MO)} {ρ : Ev} {M : Mem} (hρ : i < ρ.length) (dp : Deps deps M) : ∀ {ws : List W} {is : List Int} (n : Nat) (acc : List Int), intsOf ws = some is -> is.length <= n ->
    gmL deps (gN i) tTrue (eCall fAbs (aCons (eVar i) aNil)) ρ n acc ws M = some (acc ++ is.map fun n => if n < 0 then -n else n, M)
  | [], is, n, acc, h, _ => by
    cases h
    cases n <;> simp [gmL, dp]
  | w :: ws, is, n, acc, h, le => by
    obtain ⟨j, h0, h⟩ := bsome h
    obtain ⟨r, h1, h⟩ := bsome h
    cases h
    cases asI_eq h0
    · cases n with
      | zero => simp at le
      | succ n =>
        have here : eCall fAbs (aCons (eVar i) aNil) (ρ.set i (some (.d (.int j)))) M = some (.d (.int (if j < 0 then -j else j)), M) := by
          show (((eVar i _ M).bind _).bind _) = _
          rw [slot_set hρ]
          rfl
        have ih := gm_abs hρ dp n (acc ++ [if j < 0 then -j else j]) h1 (by simpa using le)
        simp only [gmL, if_pos dp, gN, Option.bind_some, tTrue, if_true, here, asI, ih]
        simp
theorem q_maxAbs (hx : X.N[i]? = some x) (h : PE X e (tOf C (eMaxX (iSeq fi) (gN i) tTrue (eCall fAbs (aCons (eVar i) aNil)) [i]))) : PE X e (tOf C (eMaxAbs fi)) :=
  q_alt hx h fun ρ M r hρ er => by
    obtain ⟨⟨w, M1⟩, e1, er⟩ := bsome er
    obtain ⟨ws, e2, er⟩ := bsome er
    obtain ⟨is, e3, er⟩ := bsome er
    split at er
    case isTrue => cases er
    rename_i ne
    split at er
    case isFalse => cases er
    rename_i small
    cases er
    obtain ⟨deps, e4, dp⟩ := iSeq_of e1 e2
    have hρ' : i < (wipeW ρ [i]).length := by simpa [wipeW] using hρ
    show (iSeq fi ρ M).bind _ = _
    rw [e4]
    simp only [Option.bind_some]
    rw [gm_abs hρ' dp sizeLine [] e3 small]
    simp [ne]
theorem ga_blank {deps : List (Nat × MO)} {ρ : Ev} {M : Mem} (hρ : i < ρ.length) (dp : Deps deps M) : ∀ {ws : List W} {bs : List Bool} (n : Nat), blanks ws = some bs -> bs.length <= n ->
    gaL true deps (gN i) tTrue (eOp oEq (eVar i) (eTup (aCons (eC (.bool false)) (aCons (eC (.int 0)) aNil)))) ρ n ws M = some (bs.all id, M)
  | [], bs, n, h, _ => by
    cases h
    cases n <;> simp [gaL, dp]
  | w :: ws, bs, n, h, le => by
    unfold blanks at h
    split at h
    · rename_i e; cases e
    · rename_i b j ws' e
      cases e
      obtain ⟨r, h1, h⟩ := bsome h
      cases h
      cases n with
      | zero => simp at le
      | succ n =>
        have here : eOp oEq (eVar i) (eTup (aCons (eC (.bool false)) (aCons (eC (.int 0)) aNil))) (ρ.set i (some (.d (.tuple [.bool b, .int j])))) M = some (.d (.bool (PyData.eqv (.tuple [.bool b, .int j]) (.tuple [.bool false, .int 0]))), M) := by
          show ((eVar i _ M).bind _) = _
          rw [slot_set hρ]
          have two : ([W.d (.bool false), W.d (.int 0)] : List W).length <= sizeLine := by decide
          simp only [Option.bind_some, eTup, aCons, aNil, eC, if_pos two]
          have sh : (SeqAt.shaped (.tuple [.bool b, .int j]) && SeqAt.shaped (.tuple [.bool false, .int 0])) = true := by
            simp [SeqAt.shaped, PyData.canLay0, PyData.canLayAll0, PyData.depth, PyData.depthAll]
          simp [mkTup, datas, oEq, eqD, sh]
        have ih := ga_blank hρ dp n h1 (by simpa using le)
        simp only [gaL, if_pos dp, gN, Option.bind_some, tTrue, if_true, here, asB]
        cases PyData.eqv (.tuple [.bool b, .int j]) (.tuple [.bool false, .int 0]) with
        | true => simp [ih]
        | false => simp
    · cases h
theorem q_allBlank (hx : X.N[i]? = some x) (h : PE X e (tOf C (eAllX true (iSeq fi) (gN i) tTrue (eOp oEq (eVar i) (eTup (aCons (eC (.bool false)) (aCons (eC (.int 0)) aNil)))) [i]))) : PE X e (tOf C (eAllBlank fi)) :=
  q_alt hx h fun ρ M r hρ er => by
    obtain ⟨⟨w, M1⟩, e1, er⟩ := bsome er
    obtain ⟨ws, e2, er⟩ := bsome er
    obtain ⟨bs, e3, er⟩ := bsome er
    split at er
    case isFalse => cases er
    rename_i small
    cases er
    obtain ⟨deps, e4, dp⟩ := iSeq_of e1 e2
    have hρ' : i < (wipeW ρ [i]).length := by simpa [wipeW] using hρ
    show (iSeq fi ρ M).bind _ = _
    rw [e4]
    simp only [Option.bind_some]
    rw [ga_blank hρ' dp sizeLine e3 small]
    rfl
end
end Va
namespace Va
open PySem PySem.Spec PyProof.Rows L2 Sa Gn
/-- it can be shown -/
def ShowOk (d : PyData) : Prop := match d with
  | .int i => i.natAbs.log2 < 1920
  | .bool _ => True
  | .none => True
  | .str _ => False
  | d => d.showable = true /\ d.hasDict = false /\ d.depth <= 60 /\ d.shown.length <= sizeLine
end Va
namespace Va
open PySem PySem.Spec PyProof.Rows L2 Sa Gn
def rAddG (K : PySem.W.Frag) : R2 := fun x y H Q => rI0 (fun i j => .int (i + j)) x y H Q ∨ rCatA K x y H Q ∨ rCat x y H Q
theorem op_addG {X : Cx} : OpR X (binaryOp .Add) (rAddG X.K) := op_add.or (op_catA.or op_cat)
/-- + : ints, tuples, lists -/
def oAddG : O2 := fun a b M => match a, b with
  | .d (.int i), .d (.int j) => some (.d (.int (i + j)), M)
  | .obj i, .obj j => oCat (.obj i) (.obj j) M
  | a, b => oCatT a b M
theorem vo_addG {C : Ck} : VO2 C (rAddG C.K) oAddG := by
  intro φ M H x y a b w M' Q sim rx ry e q
  unfold oAddG at e
  split at e
  · cases e
    obtain rfl := rx.isI
    obtain rfl := ry.isI
    exact .inl ⟨_, _, rfl, rfl, q _ φ H (.refl sim) (.d (.int _))⟩
  · exact .inr (.inr (vo_cat (C := C) φ M H x y _ _ w M' Q sim rx ry e q))
  · refine .inr (.inl ?_)
    obtain ⟨ws, e1, e⟩ := bsome e
    obtain ⟨us, e2, e⟩ := bsome e
    split at e
    · rename_i small
      cases e
      obtain ⟨a1, vs1, rfl, s1, r1⟩ := rx.un e1
      obtain ⟨a2, vs2, rfl, s2, r2⟩ := ry.un e2
      refine ⟨a1, a2, vs1, vs2, rfl, rfl, s1, s2, by rw [r1.length, r2.length]; exact small, fun z => ?_, fun _ z => ?_, fun _ _ p np => ?_⟩
      · subst z
        cases r1
        exact q _ φ H (.refl sim) (.tup s2 r2)
      · subst z
        cases r2
        rw [List.append_nil] at q
        exact q _ φ H (.refl sim) (.tup s1 r1)
      · have s3 := Step.tup (o := .tup (vs1 ++ vs2)) sim np
        exact q _ φ _ s3 (.tup (SqT.of upd_same) ((r1.step s3).append (r2.step s3)))
    · cases e
end Va
namespace Va
open PySem PySem.Spec PyProof.Rows L2 Sa
end Va
namespace Va
open PySem PySem.Spec PyProof.Rows L2 Sa
end Va
namespace Va
open PySem PySem.Spec PyProof.Rows L2 L2.DX Sa
/-- the dict of the memory -/
def dicAt (M : Mem) : W -> Option (Nat × List (PyData × PyData))
  | .obj i => match M[i]? with
    | some (.dic es _) => some (i, es)
    | _ => none
  | _ => none
/-- how often it was touched -/
def stampAt (M : Mem) (i : Nat) : Nat := match M[i]? with
  | some (.dic _ n) => n
  | _ => 0
/-- a key of a dict: a tuple of flat data -/
def keyD : W -> Option PyData
  | .d (.tuple ds) => if flat (.tuple ds) = true /\ (nk (.tuple ds)).depth <= 8 then some (.tuple ds) else none
  | _ => none
def asD : W -> Option PyData
  | .d x => some x
  | _ => none
theorem asD_eq {w : W} {d : PyData} (h : asD w = some d) : w = .d d := by
  cases w <;> cases h
  rfl
/-- what stands at a key; a key stored -/
def dGet (es : List (PyData × PyData)) (k : PyData) : Option PyData := (es.find? fun e => decide (nk e.1 = nk k)).map (·.2)
def dPut (es : List (PyData × PyData)) (k v : PyData) : List (PyData × PyData) := if (dGet es k).isSome then es.map fun e => if nk e.1 = nk k then (e.1, v) else e else es ++ [(k, v)]
section
variable {K : PySem.W.Frag} {H : Hp}
theorem DicR.length {L : List KEnt} {es : List (PyData × PyData)} (h : DicR K H L es) : L.length = es.length := by
  induction h with
  | nil => rfl
  | cons _ _ _ _ _ ih => simp [ih]
theorem DicR.keys {L : List KEnt} {es : List (PyData × PyData)} (h : DicR K H L es) : KeysAt K H L := by
  induction h with
  | nil => intro p hp; cases hp
  | cons a f d v _ ih =>
    intro p hp
    rcases List.mem_cons.mp hp with rfl | hp
    · exact ⟨_, a.dp, f, rfl, d⟩
    · exact ih p hp
theorem DicR.get {L : List KEnt} {es : List (PyData × PyData)} (h : DicR K H L es) (k : PyData) : (kdGet L (nk k) = none /\ dGet es k = none) ∨ ∃ v d, kdGet L (nk k) = some v /\ dGet es k = some d /\ Rp K H v d := by
  induction h with
  | nil => exact .inl ⟨rfl, rfl⟩
  | @cons a v L k' d es r f dp rv _ ih =>
    by_cases e : nk k' = nk k
    · exact .inr ⟨v, d, by simp [kdGet, e], by simp [dGet, e], rv⟩
    · rcases ih with ⟨h1, h2⟩ | ⟨v', d', h1, h2, h3⟩
      · exact .inl ⟨by simpa [kdGet, e] using h1, by simpa [dGet, e] using h2⟩
      · exact .inr ⟨v', d', by simpa [kdGet, e] using h1, by simpa [dGet, e] using h2, h3⟩
theorem DicR.maps {L : List KEnt} {es : List (PyData × PyData)} (h : DicR K H L es) (k : PyData) {v : V} {d : PyData} (rv : Rp K H v d) :
    DicR K H (L.map fun p => if p.2.1 = nk k then (p.1, p.2.1, v) else p) (es.map fun e => if nk e.1 = nk k then (e.1, d) else e) := by
  induction h with
  | nil => exact .nil
  | @cons a v' L k' d' es r f dp rv' _ ih =>
    simp only [List.map_cons]
    by_cases e : nk k' = nk k
    · rw [if_pos e, if_pos e]
      exact .cons r f dp rv ih
    · rw [if_neg e, if_neg e]
      exact .cons r f dp rv' ih
theorem DicR.snoc {L : List KEnt} {es : List (PyData × PyData)} (h : DicR K H L es) {a : Addr} {k : PyData} {v : V} {d : PyData} (r : Rp K H (.ref a) k) (f : flat k = true) (dp : (nk k).depth <= 8) (rv : Rp K H v d) : DicR K H (L ++ [(a, nk k, v)]) (es ++ [(k, d)]) := by
  induction h with
  | nil => exact .cons r f dp rv .nil
  | cons r' f' dp' rv' _ ih => exact .cons r' f' dp' rv' ih
theorem DicR.put {L : List KEnt} {es : List (PyData × PyData)} (h : DicR K H L es) {a : Addr} {k : PyData} {v : V} {d : PyData} (r : Rp K H (.ref a) k) (f : flat k = true) (dp : (nk k).depth <= 8) (rv : Rp K H v d) : DicR K H (kdPut L a (nk k) v) (dPut es k d) := by
  unfold kdPut dPut
  rcases h.get k with ⟨h1, h2⟩ | ⟨v', d', h1, h2, _⟩
  · rw [h1, h2, if_neg (by simp), if_neg (by simp)]
    exact h.snoc r f dp rv
  · rw [h1, h2, if_pos (by simp), if_pos (by simp)]
    exact h.maps k rv
end
section
variable {C : Ck} {φ : Nat -> Addr} {M : Mem} {H : Hp}
/-- a thing of the memory is another one from now on -/
theorem Step.setO (S : Sim C φ M H) {i : Nat} {mo0 mo : MO} {o : HO} (e : M[i]? = some mo0) (st : ∀ es n, mo0 = .dic es n -> ∃ es' n', mo = .dic es' n' /\ n < n') (hr : Keep C.K H (upd H (φ i) o) -> RO C φ M.length (upd H (φ i) o) (φ i) mo) : Step C φ M H φ (M.set i mo) (upd H (φ i) o) := by
  obtain ⟨o0, h0, k0⟩ := (S.ob i _ e).some
  have hi : i < M.length := (List.getElem?_eq_some_iff.mp e).1
  have other : ∀ {b : Addr} {ob : HO}, H b = some ob -> (∀ vs, ob ≠ .lst vs) -> (∀ p, ob ≠ .ext p) -> (∀ L, ob ≠ .dK L) -> b ≠ φ i := fun {b ob} hb n1 n2 n3 z => by
    rw [z, h0] at hb
    cases hb
    rcases k0 with ⟨vs, rfl⟩ | ⟨p, rfl⟩ | ⟨L, rfl⟩
    · exact n1 _ rfl
    · exact n2 _ rfl
    · exact n3 _ rfl
  have kp : Keep C.K H (upd H (φ i) o) := fun a us h => by
    rcases h with (h | ⟨ob, h⟩) | h
    · exact .inl (.inl (by rw [upd_ne (other h (fun _ z => nomatch z) (fun _ z => nomatch z) fun _ z => nomatch z)]; exact h))
    · exact .inl (.inr ⟨ob, by rw [upd_ne (other h (fun _ z => nomatch z) (fun _ z => nomatch z) fun _ z => nomatch z)]; exact h⟩)
    · exact .inr h
  refine ⟨fun _ _ => rfl, by simp, kp, ⟨fun j mo' ej => ?_, fun j k hj hk ejk => S.inj j k (by simpa using hj) (by simpa using hk) ejk, fun P hP => ?_, S.scr.keep fun ob e2 => ?_, fun q hq => ⟨(S.lam q hq).1, (S.lam q hq).2.move (fun ps h => by rw [upd_ne (other h (fun _ z => nomatch z) (fun _ z => nomatch z) fun _ z => nomatch z)]; exact h) fun c h n => ⟨by rw [upd_ne (Ne.symm (n i hi))]; exact h, fun j hj => n j (by simpa using hj)⟩⟩⟩, fun j es n ej => ?_⟩
  · rw [List.length_set]
    by_cases h : j = i
    · subst h
      rw [List.getElem?_set_self hi] at ej
      cases ej
      exact hr kp
    · rw [List.getElem?_set_ne (Ne.symm h)] at ej
      have hj : j < M.length := (List.getElem?_eq_some_iff.mp ej).1
      exact (S.ob j mo' ej).move kp (fun _ _ => rfl) (Nat.le_refl _) (upd_ne fun z => h (S.inj j i hj hi z))
  · obtain ⟨ps, h, q⟩ := S.tab P hP
    exact ⟨ps, by rw [upd_ne (other h (fun _ z => nomatch z) (fun _ z => nomatch z) fun _ z => nomatch z)]; exact h, q⟩
  · rw [upd_ne (other e2 (fun _ z => nomatch z) (fun _ z => nomatch z) fun _ z => nomatch z)]; exact e2
  · have hj : j < M.length := (List.getElem?_eq_some_iff.mp ej).1
    by_cases h : j = i
    · subst h
      rw [e] at ej
      cases ej
      obtain ⟨es', n', rfl, lt⟩ := st es n rfl
      exact ⟨es', n', List.getElem?_set_self hi, Nat.le_of_lt lt, fun z => by omega⟩
    · exact ⟨es, n, by rw [List.getElem?_set_ne (Ne.symm h)]; exact ej, Nat.le_refl _, fun _ => ⟨rfl, upd_ne fun z => h (S.inj j i hj hi z)⟩⟩
/-- more is tracked, nothing else -/
theorem Step.more (S : Sim C φ M H) {H' : Hp} (ext : ∀ b o, H b = some o -> H' b = some o) : Step C φ M H φ M H' := by
  have kp : Keep C.K H H' := fun a us h => by
    rcases h with (h | ⟨ob, h⟩) | h
    · exact .inl (.inl (ext _ _ h))
    · exact .inl (.inr ⟨ob, ext _ _ h⟩)
    · exact .inr h
  refine ⟨fun _ _ => rfl, Nat.le_refl _, kp, ⟨fun j mo ej => ?_, S.inj, fun P hP => ?_, S.scr.keep fun ob e => ext _ _ e, fun q hq => ⟨(S.lam q hq).1, (S.lam q hq).2.move (fun ps h => ext _ _ h) fun c h n => ⟨ext _ _ h, n⟩⟩⟩, .same fun j es n ej => ⟨ej, by obtain ⟨o, ho, _⟩ := (S.ob j _ ej).some; rw [ho]; exact ext _ _ ho⟩⟩
  · have r := S.ob j mo ej
    obtain ⟨o, ho, _⟩ := r.some
    exact r.move kp (fun _ _ => rfl) (Nat.le_refl _) (by rw [ho]; exact ext _ _ ho)
  · obtain ⟨ps, h, q⟩ := S.tab P hP
    exact ⟨ps, ext _ _ h, q⟩
end
def eDict0 : EvE := fun _ M => some (.obj M.length, M ++ [.dic [] 0])
def sPutD (e o i : EvE) : EvS := fun ρ M => (e ρ M).bind fun p => (o ρ p.2).bind fun q => (i ρ q.2).bind fun r => (asD p.1).bind fun v => (keyD r.1).bind fun k => (dicAt r.2 q.1).bind fun l =>
  if l.2.length < sizeLine then some (.nx ρ (r.2.set l.1 (.dic (dPut l.2 k v) (stampAt r.2 l.1 + 1)))) else none
def oIxD : O2 := fun a b M => (dicAt M a).bind fun l => (keyD b).bind fun k => (dGet l.2 k).bind fun v => some (.d v, M)
section
variable {C : Ck} {X : Cx} {e : Expr} {pos : Pos}
theorem q_dict0 (hw : X.w = C.w) : PE X (.Dict [] [] pos) (tOf C eDict0) :=
  pe_kdNew.weak fun σ H Q ⟨ρ, φ, M, w, M', env, sim, e, q⟩ p np => by
    cases e
    rw [hw]
    exact q _ _ _ (Step.new sim np fun φ' _ => ⟨[], .of upd_same, .nil⟩) .new
end
end Va
namespace Va
open PySem PySem.Spec PyProof.Rows L2 Sa
/-- t * 1 is t -/
theorem times_one {l : Addr} {items : Array Value} {u : Tok} : Meets (Builtin.«tuple.__mul__» ⟨[.ref l, .int 1 u], []⟩) fun _ R s => s.heap.IsTuple l items /\ R (.ok (.ret (.ref l))) s :=
  .of_wp fun prog w A R s ⟨isT, q⟩ => by
    have ix := AutoSeq1.idx_int
    show wpAny _ _ (asIndex (.int 1 u) >>= _) _ _ s
    have one : ∀ {Q : Int -> Shared -> Prop} {E : Value -> Shared -> Prop}, Q 1 s -> wpAny (model prog w) A.in1 (asIndex (.int 1 u)) Q E s := fun h => by
      unfold asIndex
      wp_walk
      exact h
    refine wpAny_bind (one ?_)
    rw [if_neg (by decide)]
    refine wpAny_bind (m := Builtin.Tuple.tupleItemsOf _) (tupleItemsOf_ isT ?_)
    rw [if_pos (by simp)]
    refine wpAny_bind (m := Builtin.Tuple.tupleIsExact _) (wpAny_bind (wpAny_typeOf isT.typeIs (wpAny_pure ?_)))
    rw [if_pos (by decide)]
    exact wpAny_bind (wpAny_rule (wpAny_bind (wpAny_pure (wpAny_pure ⟨_, rfl, q⟩))))
section
variable {X : Cx} {C : Ck}
def rOnce (K : PySem.W.Frag) : R2 := fun x y H Q => ∃ l xs, x = .ref l /\ y = .int 1 /\ SqT K H l xs /\ Q x H
theorem op_once : OpR X (binaryOp .Mult) (rOnce X.K) := by
  intro pins s σ H x y v u Q I rx ry ⟨l, xs, ex, ey, hT, q⟩
  subst ex ey
  cases rx
  obtain ⟨t, rfl⟩ := ry
  obtain ⟨its, rel, isT, _⟩ := I.tuple hT
  obtain ⟨⟨cls, dd, data, sl⟩, at', cl, n, dt⟩ := id isT
  simp only at cl dt
  subst cl dt
  refine wpAny_binaryOp_repeat_ref (T := "tuple") (U := "int") (by decide) isT.typeIs (fun s' => typeIs_int s' 1 t) noFill_tuple_mul F.fills_int_mul F.slot_int_rmul repeat_tuple F.slot_int_index.lookup ?_
  refine call_meets F.slot_int_rmul (typeIs_int s 1 t) F.entry_int_rmul (F.args_int_rmul_2 _ _) (int_rmul_tuple 1 t l its.toArray n dd sl) ⟨at', rfl, isT.typeIs, ?_⟩
  exact call_meets F.slot_tuple_mul isT.typeIs F.entry_tuple_mul (F.args_tuple_mul_2 _ _) times_one ⟨isT, .ref l, H, I, rfl, q⟩
/-- tuple * number -/
def oRepT : O2 := fun a b M => (tupOf a).bind fun ws => (asI b).bind fun k => if k = 1 then some (a, M) else if ws ≠ [] /\ 2 <= k /\ k <= 1000 /\ ws.length <= 1000 then some (mkTup (List.replicate k.toNat ws).flatten, M) else none
theorem vo_repT : VO2 C (fun x y H Q => rOnce C.K x y H Q ∨ rRepT C.K x y H Q) oRepT := by
  intro φ M H x y a b w M' Q sim rx ry e q
  obtain ⟨ws, e1, e⟩ := bsome e
  obtain ⟨k, e2, er⟩ := bsome e
  cases asI_eq e2
  cases ry.isI
  obtain ⟨ad, vs, rfl, sq, r⟩ := rx.un e1
  clear e
  split at er
  · rename_i one
    subst one
    cases er
    exact .inl ⟨ad, vs, rfl, rfl, sq, q _ φ H (.refl sim) rx⟩
  · split at er
    · rename_i c
      cases er
      refine .inr ⟨ad, k, vs, rfl, rfl, sq, fun z => c.1 (by cases r with | nil => rfl | cons => cases z), c.2.1, c.2.2.1, by rw [r.length]; exact c.2.2.2, fun p np => ?_⟩
      have s1 := Step.tup (o := .tup (List.replicate k.toNat vs).flatten) sim np
      exact q _ φ _ s1 (.tup (SqT.of upd_same) ((rep_rel r k.toNat).step s1))
    · cases er
end
end Va
set_option maxHeartbeats 3200000
namespace Sa
open PySem PySem.Spec PyProof.Rows L2 L2.DX
section
variable {X : Cx} {pins : List (Addr × Obj)} {σ : L2.St}
/-- where the loop of the block is over, the def goes on -/
theorem back {s3 s6 : Shared} {H3 H5 : Hp} {B : Cx} {fp : List Addr} {τ : L2.St} (eb : ∃ scope ce, B = X.blk s3 H3 scope ce fp) (I3 : Inv X pins σ H3 s3) (f3 : ∀ b ∈ fp, FpOk X pins H3 b) (I6 : Inv B [] τ H5 s6) : Inv X pins σ H5 s6 := by
  obtain ⟨scope, ce, rfl⟩ := eb
  refine I3.call' (ch := fp) I6.os I6.base I6.hok I6.bare fun b hb => ?_
  obtain ⟨_, l, _, x, c, p⟩ := f3 b hb
  exact ⟨x, l, c, p⟩
end
end Sa
set_option maxHeartbeats 1600000
namespace Va
open PySem PySem.Spec PyProof.Rows L2 L2.DX Sa
end Va
namespace Sa
open PySem PySem.Spec PyProof.Rows L2 PySem.W DT L2.DX
end Sa
namespace Va
open PySem PySem.Spec PyProof.Rows L2 L2.DX Sa
end Va
namespace Gn
open PySem PySem.Spec PyProof.Rows L2 Sa PySem.W DT
end Gn
set_option maxHeartbeats 1000000
namespace Va
open PySem PySem.Spec PyProof.Rows L2 Sa Gn
end Va
namespace Va
open PySem PySem.Spec PyProof.Rows L2 L2.DX Sa
end Va
namespace Va
open PySem PySem.Spec PyProof.Rows L2 L2.DX Sa
/-- an end of a slice -/
abbrev EvO := Ev -> Mem -> Option (Option Int × Mem)
def toOf (C : Ck) (fo : EvO) : TO := fun σ H Q => ∃ ρ φ M i M', EnvR C φ M.length H σ ρ /\ Sim C φ M H /\ fo ρ M = some (i, M') /\ ∀ φ' H', Step C φ M H φ' M' H' -> Q i H'
def pN : EvO := fun _ M => some (none, M)
def pE (e : EvE) : EvO := fun ρ M => (e ρ M).bind fun p => (asI p.1).bind fun i => some (some i, p.2)
def eSlTv (l h : EvO) (a : EvE) : EvE := fun ρ M => (a ρ M).bind fun p => (l ρ p.2).bind fun q => (h ρ q.2).bind fun r => (tupOf p.1).bind fun ws => some (mkTup (cutG ws q.1 r.1), r.2)
section
variable {C : Ck} {X : Cx} {e : Expr} {lo hi : Option Expr} {fa fe : EvE} {fl fh : EvO} {pos p2 : Pos}
theorem qp_none : PO X none (toOf C pN) := ⟨fun pins s σ H Q I ⟨ρ, φ, M, i, M', env, sim, e, q⟩ => by
  cases e
  exact po_none.run pins s σ H Q I (q φ H (.refl sim))⟩
theorem qp_e (he : PE X e (tOf C fe)) : PO X (some e) (toOf C (pE fe)) := ⟨fun pins s σ H Q I ⟨ρ, φ, M, i, M', env, sim, e, q⟩ => by
  obtain ⟨⟨x, M1⟩, e1, e⟩ := bsome e
  obtain ⟨k, hk, e⟩ := bsome e
  cases e
  have ex := asI_eq hk
  simp only at ex
  subst ex
  refine (po_some he).run pins s σ H Q I ⟨ρ, φ, M, _, M1, env, sim, e1, fun v φ1 H1 s1 r1 => ?_⟩
  obtain rfl := r1.isI
  exact ⟨k, rfl, q φ1 H1 s1⟩⟩
theorem q_slTv (hK : X.K = C.K) (he : PE X e (tOf C fa)) (hl : PO X lo (toOf C fl)) (hu : PO X hi (toOf C fh)) : PE X (.Subscript e (.Slice lo hi none p2) pos) (tOf C (eSlTv fl fh fa)) :=
  (pe_slice sl_tupA he hl hu).weak fun σ H Q ⟨ρ, φ, M, w, M', env, sim, e, q⟩ => by
    obtain ⟨⟨x, M1⟩, e1, e⟩ := bsome e
    obtain ⟨⟨l, M2⟩, e2, e⟩ := bsome e
    obtain ⟨⟨u, M3⟩, e3, e⟩ := bsome e
    obtain ⟨ws, ew, e⟩ := bsome e
    cases e
    refine ⟨ρ, φ, M, x, M1, env, sim, e1, fun v φ1 H1 s1 r1 => ⟨ρ, φ1, M1, l, M2, env.step s1, s1.sim, e2, fun φ2 H2 s2 => ⟨ρ, φ2, M2, u, M3, (env.step s1).step s2, s2.sim, e3, fun φ3 H3 s3 => ?_⟩⟩⟩
    obtain ⟨ad, vs, rfl, sq, r⟩ := ((r1.step s2).step s3).un ew
    have s03 := s1.trans (s2.trans s3)
    refine ⟨ad, vs, rfl, by rw [hK]; exact sq, fun h => ?_, fun h p np => ?_⟩
    · have hc : cutG ws l u = ws := by
        unfold cutG
        rw [<- r.length, h.1, h.2]
        simp [r.length]
      refine q _ φ3 H3 s03 ?_
      rw [hc]
      exact .tup sq r
    · have s4 := Step.tup (o := .tup (cutV vs l u)) s03.sim np
      exact q _ φ3 _ (s03.trans s4) (.tup (SqT.of upd_same) ((cut_rel r l u).step s4))
def fList : Fn := fun as M => match as with
  | [a] => (seqOf M a).bind fun ws => some (.obj M.length, M ++ [.lst ws])
  | _ => none
theorem vc_list : VC C (fun xs H Q => ∃ p ys, xs = [.ref p] /\ (SqL C.K H p ys ∨ SqT C.K H p ys) /\ ∀ l, H l = none -> Q (.ref l) (upd H l (.lst ys))) fList := by
  intro φ M H xs as w M' Q sim r e q
  unfold fList at e
  split at e
  · obtain ⟨ws, es, e⟩ := bsome e
    cases e
    obtain ⟨x, rfl, r1⟩ := one_arg r
    obtain ⟨a, vs, rfl, sq, r2⟩ := seq_cases sim r1 es
    exact ⟨a, vs, rfl, sq, fun l nl => q _ _ _ (.list sim nl r2) .new⟩
  · cases e
end
end Va
set_option maxHeartbeats 1600000
namespace Sa
open PySem PySem.Spec PyProof.Rows L2 L2.DX
end Sa
namespace Va
open PySem PySem.Spec PyProof.Rows L2 L2.DX Sa
end Va
set_option maxHeartbeats 1000000
namespace Va
open PySem PySem.Spec PyProof.Rows L2 L2.DX Sa
def eCh (f g : O2) (a b c : EvE) : EvE := fun ρ M => (a ρ M).bind fun p => (b ρ p.2).bind fun q => (f p.1 q.1 q.2).bind fun r => (asB r.1).bind fun k => if k = true then (c ρ r.2).bind fun s => g q.1 s.1 s.2 else some (.d (.bool false), r.2)
section
variable {C : Ck} {X : Cx} {a b c : Expr} {fa fb fc : EvE} {pos : Pos} {op op' : CmpOp} {r r' : R2} {f g : O2}
theorem chain_of (hv : VO2 C r f) (hv' : VO2 C r' g) {σ : L2.St} {H : Hp} {Q : VK} (h : tOf C (eCh f g fa fb fc) σ H Q) : tChain r r' (tOf C fa) (tOf C fb) (tOf C fc) σ H Q := by
  obtain ⟨ρ, φ, M, w, M', env, sim, e, q⟩ := h
  obtain ⟨⟨x, M1⟩, e1, e⟩ := bsome e
  obtain ⟨⟨y, M2⟩, e2, e⟩ := bsome e
  obtain ⟨⟨z, M3⟩, e3, e⟩ := bsome e
  obtain ⟨k, hk, e⟩ := bsome e
  refine ⟨ρ, φ, M, x, M1, env, sim, e1, fun v φ1 H1 s1 r1 => ⟨ρ, φ1, M1, y, M2, env.step s1, s1.sim, e2, fun v2 φ2 H2 s2 r2 => ?_⟩⟩
  refine hv φ2 M2 H2 v v2 x y z M3 _ s2.sim (r1.step s2) r2 e3 fun v3 φ3 H3 s3 r3 => ?_
  have ez := asB_eq hk
  simp only at ez
  subst ez
  obtain rfl := r3.isB
  refine ⟨k, rfl, ?_⟩
  have s03 := s1.trans (s2.trans s3)
  cases k with
  | false =>
    simp only [Bool.false_eq_true, if_false] at e ⊢
    cases e
    exact q _ φ3 H3 s03 (.d (.bl _))
  | true =>
    simp only [if_true] at e ⊢
    obtain ⟨⟨u, M4⟩, e4, e⟩ := bsome e
    refine ⟨ρ, φ3, M3, u, M4, env.step s03, s3.sim, e4, fun v4 φ4 H4 s4 r4 => ?_⟩
    exact hv' φ4 M4 H4 v2 v4 y u w M' Q s4.sim ((r2.step s3).step s4) r4 e fun v5 φ5 H5 s5 r5 => q v5 φ5 H5 (s03.trans (s4.trans s5)) r5
theorem q_chain (ho : OpR X (compareOp op) r) (hv : VO2 C r f) (ho' : OpR X (compareOp op') r') (hv' : VO2 C r' g) (ha : PE X a (tOf C fa)) (hb : PE X b (tOf C fb)) (hc : PE X c (tOf C fc)) (hm : lastMarks [op, op'] [b, c] = false := by with_unfolding_all rfl) : PE X (.Compare a [op, op'] [b, c] pos) (tOf C (eCh f g fa fb fc)) :=
  (pe_chain ho ho' ha hb hc hm).weak fun _ _ _ h => chain_of hv hv' h
theorem qt_chain (ho : OpR X (compareOp op) r) (hv : VO2 C r f) (ho' : OpR X (compareOp op') r') (hv' : VO2 C r' g) (ha : PE X a (tOf C fa)) (hb : PE X b (tOf C fb)) (hc : PE X c (tOf C fc)) (hm : lastMarks [op, op'] [b, c] = false := by with_unfolding_all rfl) : PT X (.Compare a [op, op'] [b, c] pos) (ttOf C (tVal (eCh f g fa fb fc))) :=
  (pt_chain ho ho' ha hb hc hm).weak fun σ H Q ⟨ρ, φ, M, k, M', env, sim, e, q⟩ => by
    obtain ⟨⟨w, M1⟩, e1, e⟩ := bsome e
    obtain ⟨k', hk, e⟩ := Option.map_eq_some_iff.mp e
    cases e
    refine chain_of hv hv' ⟨ρ, φ, M, w, M1, env, sim, e1, fun v φ1 H1 s1 r1 => ?_⟩
    have ez := asB_eq hk
    simp only at ez
    subst ez
    obtain rfl := r1.isB
    exact ⟨_, rfl, q φ1 H1 s1⟩
end
end Va
namespace Va
open PySem PySem.Spec PyProof.Rows L2 L2.DX Sa
section
variable {C : Ck}
def oIsB : O2 := fun a b M => match a, b with
  | .d (.bool p), .d (.bool q) => some (.d (.bool (decide (p = q))), M)
  | _, _ => none
def oNotB : O2 := fun a b M => match a, b with
  | .d (.bool p), .d (.bool q) => some (.d (.bool (!decide (p = q))), M)
  | _, _ => none
theorem vo_notB : VO2 C (fun x y H Q => ∃ a b, x = .bl a /\ y = .bl b /\ Q (.bl (!decide (a = b))) H) oNotB := by
  intro φ M H x y a b w M' Q sim rx ry e q
  unfold oNotB at e
  split at e
  · cases e
    obtain rfl := rx.isB
    obtain rfl := ry.isB
    exact ⟨_, _, rfl, rfl, q _ φ H (.refl sim) (.d (.bl _))⟩
  · cases e
end
end Va
namespace Va
open PySem PySem.Spec PyProof.Rows L2 L2.DX Sa
noncomputable abbrev oMulW : O2 := oIc CMulW fun i j => .int (i * j)
theorem vo_mulW {C : Ck} : VO2 C (rI CMulW fun i j => .int (i * j)) oMulW := vo_Ic fun _ _ _ _ => .int _
abbrev Pot := List (Key × PyData)
def potGet (es : Pot) (k : Key) : Option PyData := (es.find? fun e => decide (e.1 = k)).map (·.2)
def potPut (es : Pot) (k : Key) (d : PyData) : Pot := if (es.any fun e => decide (e.1 = k)) = true then es.map (fun e => if e.1 = k then (e.1, d) else e) else es ++ [(k, d)]
def keyW : W -> Option Key
  | .d (.int i) => some (.inl i)
  | .d (.str x) => some (.inr x)
  | _ => none
def potAt (M : Mem) : W -> Option (Nat × Pot)
  | .obj i => match M[i]? with
    | some (.pot es) => some (i, es)
    | _ => none
  | _ => none
theorem potAt_eq {M : Mem} {w : W} {i : Nat} {es : Pot} (h : potAt M w = some (i, es)) : w = .obj i /\ M[i]? = some (.pot es) := by
  cases w with
  | obj j =>
    have h : (match M[j]? with | some (.pot es) => some (j, es) | _ => none) = some (i, es) := h
    split at h
    · rename_i es' e
      cases h
      exact ⟨rfl, e⟩
    · cases h
  | d x => cases h
  | scr => cases h
  | pack ws => cases h
  | fn => cases h
section
variable {C : Ck} {φ : Nat -> Addr} {n : Nat} {M : Mem} {H : Hp}
theorem Rw.key {v : V} {w : W} {k : Key} (r : Rw C φ n H v w) (e : keyW w = some k) : v = kV k := by
  unfold keyW at e
  split at e
  · cases e; exact r.isI
  · cases e; exact r.isS
  · cases e
theorem PotR.get {K : PySem.W.Frag} {L : List (Key × V)} {es : Pot} (h : PotR K H L es) (k : Key) : (valV L k = none /\ potGet es k = none) ∨ ∃ v d, valV L k = some v /\ potGet es k = some d /\ Rp K H v d := by
  induction h with
  | nil => exact .inl ⟨rfl, rfl⟩
  | @cons k0 v L d es r _ ih =>
    by_cases e : k0 = k
    · exact .inr ⟨v, d, valV_pos e, by simp [potGet, e], r⟩
    · rw [valV_neg (p := (k0, v)) e]
      have : potGet ((k0, d) :: es) k = potGet es k := by simp [potGet, List.find?_cons, e]
      rw [this]
      exact ih
theorem PotR.any {K : PySem.W.Frag} {L : List (Key × V)} {es : Pot} (h : PotR K H L es) (k : Key) : (L.any fun kv => decide (kv.1 = k)) = es.any fun kv => decide (kv.1 = k) := by
  induction h with
  | nil => rfl
  | cons r _ ih => simp only [List.any_cons, ih]
theorem PotR.maps {K : PySem.W.Frag} {L : List (Key × V)} {es : Pot} (h : PotR K H L es) (k : Key) {v : V} {d : PyData} (r : Rp K H v d) : PotR K H (L.map fun kv => if kv.1 = k then (kv.1, v) else kv) (es.map fun kv => if kv.1 = k then (kv.1, d) else kv) := by
  induction h with
  | nil => exact .nil
  | @cons k0 v0 L d0 es r0 _ ih =>
    simp only [List.map_cons]
    by_cases e : k0 = k
    · rw [if_pos e, if_pos e]; exact .cons r ih
    · rw [if_neg e, if_neg e]; exact .cons r0 ih
theorem PotR.snoc {K : PySem.W.Frag} {L : List (Key × V)} {es : Pot} (h : PotR K H L es) {k : Key} {v : V} {d : PyData} (r : Rp K H v d) : PotR K H (L ++ [(k, v)]) (es ++ [(k, d)]) := by
  induction h with
  | nil => exact .cons r .nil
  | cons r0 _ ih => exact .cons r0 ih
theorem PotR.put {K : PySem.W.Frag} {L : List (Key × V)} {es : Pot} (h : PotR K H L es) (k : Key) {v : V} {d : PyData} (r : Rp K H v d) : PotR K H (putK L k v) (potPut es k d) := by
  unfold putK potPut
  rw [h.any k]
  split
  · exact h.maps k r
  · exact h.snoc r
theorem PotR.length {K : PySem.W.Frag} {L : List (Key × V)} {es : Pot} (h : PotR K H L es) : L.length = es.length := by
  induction h with
  | nil => rfl
  | cons _ _ ih => simp [ih]
/-- the pairs of a display -/
def pairsW : List W -> Option Pot
  | [] => some []
  | k :: .d d :: ws => (keyW k).bind fun k => (pairsW ws).bind fun r => some ((k, d) :: r)
  | _ => none
def potOf (ps : Pot) : Pot := ps.foldl (fun acc p => potPut acc p.1 p.2) []
theorem PotR.merge {K : PySem.W.Frag} {more : Pot} {rs : List (Key × V)} (t : PotR K H rs more) : ∀ {L : List (Key × V)} {es : Pot}, PotR K H L es -> PotR K H (mergeK L rs) (more.foldl (fun acc p => potPut acc p.1 p.2) es) := by
  induction t with
  | nil => exact fun h => h
  | @cons k v L d es r _ ih => exact fun h => ih (h.put k r)
theorem pairs_rel : ∀ {ws : List W} {vs : List V} {ps : Pot}, RwAll C φ n H vs ws -> pairsW ws = some ps -> ∃ kvs : List (Key × V), PotR C.K H kvs ps /\ vs = (kvs.map fun kv => [kV kv.1, kv.2]).flatten
  | [], _, ps, .nil, e => by cases e; exact ⟨[], .nil, rfl⟩
  | [k], _, ps, _, e => by cases k <;> cases e
  | k :: .d d :: ws, _, ps, .cons rk (.cons (.d rd) r), e => by
    obtain ⟨k', hk, e⟩ := bsome e
    obtain ⟨ps', hp, e⟩ := bsome e
    cases e
    obtain ⟨kvs, h1, h2⟩ := pairs_rel r hp
    exact ⟨_ :: kvs, .cons rd h1, by rw [rk.key hk, h2]; rfl⟩
  | k :: .obj i :: ws, _, ps, _, e => by cases k <;> cases e
  | k :: .scr :: ws, _, ps, _, e => by cases k <;> cases e
  | k :: .pack us :: ws, _, ps, _, e => by cases k <;> cases e
  | k :: .fn :: ws, _, ps, _, e => by cases k <;> cases e
def aPairs : List (EvE × EvE) -> EvA
  | [] => aNil
  | p :: r => aCons p.1 (aCons p.2 (aPairs r))
def trsOf (C : Ck) (l : List (EvE × EvE)) : List (TE × TE) := l.map fun p => (tOf C p.1, tOf C p.2)
def unflat : List V -> List (V × V)
  | x :: y :: r => (x, y) :: unflat r
  | _ => []
theorem unflat_kvs : ∀ kvs : List (Key × V), unflat (kvs.map fun kv => [kV kv.1, kv.2]).flatten = kvs.map fun kv => (kV kv.1, kv.2)
  | [] => rfl
  | kv :: kvs => by
    show (kV kv.1, kv.2) :: unflat (kvs.map fun kv => [kV kv.1, kv.2]).flatten = _
    rw [unflat_kvs kvs]; rfl
theorem potPairs {σ : L2.St} {ρ : Ev} : ∀ (l : List (EvE × EvE)) {φ : Nat -> Addr} {M : Mem} {H : Hp} {ws : List W} {M' : Mem} (Q : List (V × V) -> Hp -> Prop), EnvR C φ M.length H σ ρ -> Sim C φ M H -> aPairs l ρ M = some (ws, M') ->
    (∀ vs φ' H', Step C φ M H φ' M' H' -> RwAll C φ' M'.length H' vs ws -> Q (unflat vs) H') -> tPairs (trsOf C l) σ H Q
  | [], φ, M, H, ws, M', Q, env, sim, e, q => by cases e; exact q [] φ H (.refl sim) .nil
  | p :: r, φ, M, H, ws, M', Q, env, sim, e, q => by
    obtain ⟨⟨k, M1⟩, e1, e⟩ := bsome e
    obtain ⟨⟨us, M0⟩, e2, e⟩ := bsome e
    obtain ⟨⟨x, M2⟩, e3, e2⟩ := bsome e2
    obtain ⟨⟨ws2, M3⟩, e4, e2⟩ := bsome e2
    cases e2
    cases e
    refine ⟨ρ, φ, M, k, M1, env, sim, e1, fun v φ1 H1 s1 r1 => ⟨ρ, φ1, M1, x, M2, env.step s1, s1.sim, e3, fun v2 φ2 H2 s2 r2 => ?_⟩⟩
    exact potPairs r _ ((env.step s1).step s2) s2.sim e4 fun vs φ3 H3 s3 r3 => q (v :: v2 :: vs) φ3 H3 (s1.trans (s2.trans s3)) (.cons ((r1.step s2).step s3) (.cons (r2.step s3) r3))
/-- {k: v, ..} -/
def ePot (l : List (EvE × EvE)) : EvE := fun ρ M => (aPairs l ρ (M ++ [.pot []])).bind fun p => (pairsW p.1).bind fun ps => (potAt p.2 (.obj M.length)).bind fun q => if q.2.isEmpty /\ ps.length <= 15 then some (.obj M.length, p.2.set M.length (.pot (potOf ps))) else none
section
variable {X : Cx} {e o i : Expr} {fe fo fi : EvE} {pos : Pos}
theorem q_pot {keys : List (Option Expr)} {values : List Expr} {l : List (EvE × EvE)} (h : PPs X pos keys values (trsOf C l)) (hall : keys.all (·.isSome) = true) (hl : keys.length = values.length) (h0 : keys ≠ [])
    (h15 : keys.length <= 15) : PE X (.Dict keys values pos) (tOf C (ePot l)) :=
  (pe_disp h hall hl h0 h15).weak fun σ H Q ⟨ρ, φ, M, w, M', env, sim, e, q⟩ p np => by
    obtain ⟨⟨ws, M1⟩, e1, e⟩ := bsome e
    obtain ⟨ps, e2, e⟩ := bsome e
    obtain ⟨⟨i, es⟩, e3, e⟩ := bsome e
    obtain ⟨ei, el⟩ := potAt_eq e3
    have ei : M.length = i := by injection ei
    subst ei
    split at e
    case isFalse => cases e
    rename_i good
    cases e
    have z0 : es = [] := List.isEmpty_iff.mp good.1
    subst z0
    have s0 := Step.new (o := .dK []) (mo := .pot []) sim np fun φ' _ => ⟨[], upd_same, .nil⟩
    refine potPairs l _ (env.step s0) s0.sim e1 fun vs φ1 H1 s1 r1 => ?_
    obtain ⟨kvs, pr, ev⟩ := pairs_rel r1 e2
    have at1 : φ1 M.length = p := by rw [s1.ext M.length (by simp), phi_at]
    obtain ⟨L, hL, lr⟩ := s1.sim.ob M.length _ el
    rw [at1] at hL
    cases lr
    refine ⟨hL, kvs, by rw [ev, unflat_kvs], by rw [pr.length]; exact good.2, ?_⟩
    have s2 := Step.setO (mo := .pot (potOf ps)) (o := .dK (mergeK [] kvs)) s1.sim el (fun _ _ z => nomatch z) fun kp => ⟨_, upd_same, (pr.merge .nil).keep kp⟩
    rw [at1] at s2
    refine q _ _ _ (s0.trans (s1.trans s2)) ?_
    have lt : M.length < (M1.set M.length (.pot (potOf ps))).length := by
      rw [List.length_set]; exact (List.getElem?_eq_some_iff.mp el).1
    have := Rw.obj (C := C) (φ := φ1) (H := upd H1 p (.dK (mergeK [] kvs))) lt
    rwa [at1] at this
/-- o[k] of a pot -/
def eIxP (o i : EvE) : EvE := fun ρ M => (o ρ M).bind fun p => (i ρ p.2).bind fun r => (potAt r.2 p.1).bind fun l => (keyW r.1).bind fun k => (potGet l.2 k).bind fun d => some (.d d, r.2)
theorem q_ixP (hu : X.A.units + 64 < cLine) (ho : PE X o (tOf C fo)) (hi : PE X i (tOf C fi)) (hs : NoSl i) : PE X (.Subscript o i pos) (tOf C (eIxP fo fi)) :=
  (pe_dget (by omega) ho hi hs).weak fun σ H Q ⟨ρ, φ, M, w, M', env, sim, e, q⟩ => by
    obtain ⟨⟨x, M1⟩, e1, e⟩ := bsome e
    obtain ⟨⟨y, M2⟩, e2, e⟩ := bsome e
    obtain ⟨⟨l, es⟩, e3, e⟩ := bsome e
    obtain ⟨k, ek, e⟩ := bsome e
    obtain ⟨d, ed, e⟩ := bsome e
    cases e
    obtain ⟨ex, el⟩ := potAt_eq e3
    simp only at ex
    subst ex
    refine ⟨ρ, φ, M, _, M1, env, sim, e1, fun v φ1 H1 s1 r1 => ⟨ρ, φ1, M1, y, M2, env.step s1, s1.sim, e2, fun v2 φ2 H2 s2 r2 => ?_⟩⟩
    obtain ⟨rfl, _⟩ := (r1.step s2).isO
    obtain ⟨L, hL, lr⟩ := s2.sim.ob _ _ el
    rw [r2.key ek]
    rcases lr.get k with ⟨_, h⟩ | ⟨u, d', h1, h2, h3⟩
    · rw [ed] at h; cases h
    · rw [ed] at h2
      cases h2
      exact ⟨_, u, rfl, by rw [<- h1]; exact .k hL, q _ φ2 H2 (s1.trans s2) (.d h3)⟩
/-- o[k] = e of a pot -/
def sPutP (e o i : EvE) : EvS := fun ρ M => (e ρ M).bind fun p => (o ρ p.2).bind fun q => (i ρ q.2).bind fun r => (asD p.1).bind fun v => (keyW r.1).bind fun k => (potAt r.2 q.1).bind fun l =>
  if l.2.length < sizeLine then some (.nx ρ (r.2.set l.1 (.pot (potPut l.2 k v)))) else none
theorem q_putP {value : Expr} {pos' : Pos} (hu : X.A.units + 64 < cLine) (he : PE X value (tOf C fe)) (ho : PE X o (tOf C fo)) (hi : PE X i (tOf C fi)) (hs : swapsWith value (some (.Subscript o i pos')) pos.line X.env = pure false := by rfl) :
    PS X (.Assign [.Subscript o i pos'] value pos) (tsOf C (sPutP fe fo fi)) :=
  (ps_dput (by omega) ho hi he hs).weak fun D σ H ⟨ρ, φ, M, o, env, sim, e, q⟩ => by
    obtain ⟨⟨x, M1⟩, e1, e⟩ := bsome e
    obtain ⟨⟨y, M2⟩, e2, e⟩ := bsome e
    obtain ⟨⟨z, M3⟩, e3, e⟩ := bsome e
    obtain ⟨v, hv, e⟩ := bsome e
    obtain ⟨k, hk, e⟩ := bsome e
    obtain ⟨⟨l, es⟩, hl, e⟩ := bsome e
    split at e
    case isFalse => cases e
    rename_i small
    cases e
    obtain ⟨ey, el⟩ := potAt_eq hl
    have ex := asD_eq hv
    simp only at ey ex el small
    subst ey ex
    refine ⟨ρ, φ, M, _, M1, env, sim, e1, fun u φ1 H1 s1 r1 => ⟨ρ, φ1, M1, _, M2, env.step s1, s1.sim, e2, fun u2 φ2 H2 s2 r2 => ⟨ρ, φ2, M2, _, M3, (env.step s1).step s2, s2.sim, e3, fun u3 φ3 H3 s3 r3 => ?_⟩⟩⟩
    obtain ⟨rfl, hlt⟩ := (r2.step s3).isO
    cases (r1.step s2).step s3 with | d rx =>
    obtain ⟨L, hL, lr⟩ := s3.sim.ob l _ el
    rw [r3.key hk]
    refine ⟨φ3 l, _, rfl, .k hL (by rw [lr.length]; exact small), ?_⟩
    have s4 := Step.setO (mo := .pot (potPut es k v)) (o := .dK (putK L k u)) s3.sim el (fun _ _ z => nomatch z) fun kp => ⟨_, upd_same, (lr.put k rx).keep kp⟩
    have s5 := s1.trans (s2.trans (s3.trans s4))
    exact q σ φ3 _ s5 (env.step s5)
end
end
end Va
namespace Va
open PySem PySem.Spec PyProof.Rows L2 L2.DX Sa
end Va
namespace Va
open PySem PySem.Spec PyProof.Rows L2 L2.DX Sa
end Va
namespace Va
open PySem PySem.Spec PyProof.Rows L2 L2.DX Sa
def iZip2U (a : EvA) : EvI := fun ρ M => (a ρ M).bind fun p => match p.1 with
  | [x, y] => (srcOf p.2 x).bind fun s1 => (srcOf p.2 y).bind fun s2 => some ((zip2W s1.1 s2.1, s1.2 ++ s2.2), p.2)
  | _ => none
end Va
namespace Va
open PySem PySem.Spec PyProof.Rows L2 L2.DX Sa
open Classical in
/-- sorted(d) -/
noncomputable def fSortK : Fn := fun as M => match as with
  | [a] => (dicAt M a).bind fun l => if Rows (l.2.map (·.1)) /\ (∀ e ∈ l.2, e.1.depth <= 60) then some (.obj M.length, M ++ [.lst (((l.2.map (·.1)).mergeSort (PySem.W.dataLe false id)).map W.d)]) else none
  | _ => none
end Va
namespace Va
open PySem PySem.Spec PyProof.Rows L2 L2.DX Sa
end Va
namespace Va
open PySem PySem.Spec PyProof.Rows L2 L2.DX Sa
/-- the parameter kw behind ps: left out it is d, written it comes last -/
structure KwP (K : PySem.W.Frag) (fd : FuncData) (ps : List Str) (kw : Str) (d : V) : Prop where
  few : ∃ u, RelV d u /\ Binds K fd (ps ++ [kw]) [u]
  all : KBn K fd (ps ++ [kw]) ps.length [kw] (fun us ws => us ++ ws) (fun vs zs => vs ++ zs)
section
variable {K : PySem.W.Frag} {x : Str} {st : Stmt} {f D : Addr} {fd : FuncData} {ps : List Str} {kw : Str} {d : V} {u : Value}
theorem KwP.of (F : Fun K x x st f fd) (hD : fd.kwdefaults = .ref D) (hn : PySem.W.nsIn K D kw = some (some u)) (hr : RelV d u)
    (h1 : ∀ (D : Addr) (doc pm : Value) (an : Option Addr) (cdv ct : Value) (us : List Value) (z : Value), us.length = ps.length ->
      KwChain D [(kw, z)] (bindArgs (PySem.W.fnOf x x (defArgs st) (defBody st) (defScope st) .none (.ref D) doc pm an cdv ct) ⟨us, []⟩) ((ps ++ [kw]).zip (us ++ [z])))
    (h2 : ∀ (D : Addr) (doc pm : Value) (an : Option Addr) (cdv ct : Value) (us : List Value) (z : Value), us.length = ps.length ->
      bindArgs (PySem.W.fnOf x x (defArgs st) (defBody st) (defScope st) .none (.ref D) doc pm an cdv ct) ⟨us, [(kw, z)]⟩ = pure ((ps ++ [kw]).zip (us ++ [z]))) : KwP K fd ps kw d := by
  obtain ⟨oc, od, kV, doc, pm, an, cdv, ct, osl, e, lk, hcd⟩ := F.ex
  have ek : kV = .ref D := by rw [e] at hD; exact hD
  have G : FunD K x x (defArgs st) (defBody st) (defScope st) [] [(kw, d)] f fd := ⟨⟨oc, od, .none, kV, doc, pm, an, cdv, ct, osl, e, lk, hcd, .inl ⟨rfl, rfl⟩, .inr ⟨D, ek, fun q hq => by
    have : q = (kw, d) := by simpa using hq
    subst this
    exact ⟨u, hn, hr⟩⟩⟩, F.kp⟩
  constructor
  · obtain ⟨ds, rd, b⟩ := FunD.binds0 (ps := ps ++ [kw]) G ps.length (by simp) (by simp) fun D doc pm an cdv ct us ks l1 l2 => by
      match ks, l2 with
      | [z], _ => exact h1 D doc pm an cdv ct us z l1
    cases rd with | cons r1 r2 =>
    cases r2
    exact ⟨_, r1, b⟩
  · obtain ⟨mv, b⟩ := FunD.kbinds0 (ps := ps ++ [kw]) G ps.length [kw] [] (fun a _ c => a ++ c) (by simp) (by simp) (fun r1 _ r3 => r1.append r3) fun D doc pm an cdv ct us mv ws l1 l2 l3 => by
      match mv, ws, l2, l3 with
      | [], [z], _, _ => exact h2 D doc pm an cdv ct us z l1
    exact b
end
/-- such a def keeps the promise sp -/
structure DfK (P : Program) (w : World) (K : PySem.W.Frag) (mg : Str -> Option Value) (base : Heap) (k : Nat) (x : Str) (ps : List Str) (kw : Str) (d : V) (sp : Sp) : Prop where
  ex : ∃ f fd, FnG P w K mg base k f fd (ps ++ [kw]) sp /\ mg x = some (.ref f) /\ PySem.W.keepIn K (.ref f) = true /\ KwP K fd ps kw d
section
variable {P : Program} {w : World} {mg : Str -> Option Value} {base : Heap} {C : Ck} {k n : Nat} {x : Str} {st : Stmt} {N ps : List Str} {kw : Str} {d : V} {f0 : Addr} {fd0 : FuncData} {g : EvS}
theorem Dk.of (F : Fun C.K x x st f0 fd0) (m : mg x = some (.ref f0)) (b : KwP C.K fd0 ps kw d) (sc : FnScope N (ps ++ [kw]) (defScope st)) (hn : n = N.length)
    (walk : ∀ (f : Addr) (cdv : Value) (A : Around) (outer : List Env) (s : Shared) (H : Hp) (E : XK), Room k (A.deeper (envOfC x (defScope st) s.heap.objs.size f cdv)) -> Free A ->
      PSs (cxOf CX0 P w C.K mg base N x (defScope st) f cdv A outer s H E).nox (defBody st) (tsOf C g)) :
    DfK P w C.K mg base (k + 1) x ps kw d (spV C (ps ++ [kw]).length (Va.nf (fnV n g))) :=
  ⟨f0, fd0, okG F sc (fun vs H Q E ⟨_, _, _, _, _, _, hl, _⟩ => hl) fun cdv A outer s H vs Q E _ hr hf h => ⟨_, walk f0 cdv A outer s H E hr hf, run_body hn (spV_nf h)⟩, m, F.kp, b⟩
end
end Va
set_option maxHeartbeats 3200000
namespace Sa
open PySem PySem.Spec PyProof.Rows L2 L2.DX
end Sa
set_option maxHeartbeats 1000000
namespace Va
open PySem PySem.Spec PyProof.Rows L2 L2.DX Sa
end Va
namespace Va
open PySem PySem.Spec PyProof.Rows L2 L2.DX Sa
end Va
namespace Va
open PySem PySem.Spec PyProof.Rows L2 Sa
structure FnS (P : Program) (w : World) (K : PySem.W.Frag) (mg : Str -> Option Value) (base : Heap) (k : Nat) (f : Addr) (fd : FuncData) (ps : List Str) (pre : Shared -> Hp -> Prop) (sp : Sp) : Prop where
  many : ∀ vs H Q E, sp vs H Q E -> vs.length = ps.length
  runs : ∀ (A : Around) (outer : List Env) (s : Shared) (H : Hp) (args : Args) (us : List Value) (vs : List V) (Q : VK) (E : XK), Room k A -> Free A ->
    Env0 P w K mg base A outer s H -> BindsTo s fd args (ps.zip us) -> Vals vs us -> pre s H -> sp vs H Q E ->
    codeAny (model P w) A (.call (.ref f) args) (CR CX0 outer P w H s Q E) s
structure DfS (P : Program) (w : World) (K : PySem.W.Frag) (mg : Str -> Option Value) (base : Heap) (k : Nat) (x : Str) (ps : List Str) (pre : Shared -> Hp -> Prop) (sp : Sp) : Prop where
  ex : ∃ f fd, FnS P w K mg base k f fd ps pre sp /\ mg x = some (.ref f) /\ PySem.W.keepIn K (.ref f) = true /\ Binds K fd ps []
section
variable {P : Program} {w : World} {K : PySem.W.Frag} {mg : Str -> Option Value} {base : Heap}
theorem okS {x qual : Str} {st : Stmt} {f : Addr} {fd : FuncData} {N ps : List Str} {k : Nat} {pre : Shared -> Hp -> Prop} {sp : Sp} (F : Fun K x qual st f fd) (S : FnScope N ps (defScope st))
    (many : ∀ vs H Q E, sp vs H Q E -> vs.length = ps.length)
    (walk : ∀ (cdv : Value) (A : Around) (outer : List Env) (s : Shared) (H : Hp) (vs : List V) (Q : VK) (E : XK), Room k (A.deeper (envOfC qual (defScope st) s.heap.objs.size f cdv)) -> Free A ->
      pre s H -> sp vs H Q E -> ∃ t, PSs (cxOf CX0 P w K mg base N qual (defScope st) f cdv A outer s H E).nox (defBody st) t /\ t ⟨fun _ H' => Q .non H', Q, fun _ _ => False, fun _ _ => False⟩ (start N vs) H) :
    FnS P w K mg base (k + 1) f fd ps pre sp := by
  obtain ⟨oc, od, kV, doc, pm, an, cdv, ct, osl, rfl, lk, hcd⟩ := F.ex
  refine ⟨many, fun A outer s H args us vs Q E hr hfree e0 hb rel hp hsp => ?_⟩
  have old : ∀ b o, base.get? b = some o -> s.heap.get? b = some o := fun b o e => (e0.bs b o e).1
  have inK : K.In s.heap := e0.mod.kin.keeps old
  refine codeAny_call_function hr.depth (inK _ _ lk) rfl S.co S.gen rfl (PySem.W.codeRec_of inK hcd) (hb _ _ _ _ ?_)
  refine wpAny_newFunctionEnv_cells S.kind (fun y hy => ?_) fun env he s1 call => ?_
  · obtain ⟨n, v⟩ := y
    rcases S.par n (List.of_mem_zip hy).1 with z | z
    · exact .inl z
    · exact .inr ⟨z, PySem.W.cellsFrom_some _ _ _ (.inl z)⟩
  subst he
  refine ⟨(e0.mod.nolimit.keeps old).keeps call.toInCall.keep, codeAny_func ?_⟩
  obtain ⟨t, body, reading⟩ := walk cdv A outer s H vs Q E (hr.deeper _) hfree hp hsp
  have J0 : Inv (cxOf CX0 P w K mg base N qual (defScope st) f cdv A outer s H E) [] (start N vs) H s1 := inv_start S hr.hd e0 (many _ _ _ _ hsp) rel call
  refine wpAny_mono (body.nox.run [] s1 (start N vs) H _ J0 reading) (fun flow s' out => ?_) fun _ _ bad => bad
  cases flow with
  | ret u => obtain ⟨v, _, H', J, rv, q⟩ := out; exact ⟨v, H', J.os, J.bare, J.base, J.hok, rv, q⟩
  | next => obtain ⟨_, H', J, q⟩ := out; exact ⟨V.non, H', J.os, J.bare, J.base, J.hok, (rfl : Value.none = Value.none), q⟩
  | brk => obtain ⟨_, _, _, q⟩ := out; exact q.elim
  | cont => obtain ⟨_, _, _, q⟩ := out; exact q.elim
end
section
variable {P : Program} {w : World} {mg : Str -> Option Value} {base : Heap} {C : Ck} {k n : Nat} {x : Str} {st : Stmt} {N ps : List Str} {g : EvS} {pre : Shared -> Hp -> Prop}
theorem DfS.of (S : Stands C.K mg x st ps) (sc : FnScope N ps (defScope st)) (hn : n = N.length)
    (walk : ∀ (f : Addr) (cdv : Value) (A : Around) (outer : List Env) (s : Shared) (H : Hp) (E : XK), Room k (A.deeper (envOfC x (defScope st) s.heap.objs.size f cdv)) -> Free A -> pre s H ->
      PSs (cxOf CX0 P w C.K mg base N x (defScope st) f cdv A outer s H E).nox (defBody st) (tsOf C g)) :
    DfS P w C.K mg base (k + 1) x ps pre (spV C ps.length (Va.nf (fnV n g))) := by
  obtain ⟨f, fd, F, m, b⟩ := S.ex
  exact ⟨f, fd, okS F sc (fun vs H Q E ⟨_, _, _, _, _, _, hl, _⟩ => hl) fun cdv A outer s H vs Q E hr hf hp h => ⟨_, walk f cdv A outer s H E hr hf hp, run_body hn (spV_nf h)⟩, m, F.kp, b⟩
end
/-- the lambda at f: of these parameters, this body, this scope; it has caught cx, whose value is d -/
structure Clos (C : Ck) (q : Str) (params : Arguments) (body : Expr) (scope : Scope) (cx : Str) (d : PyData) (f : Addr) (s : Shared) (H : Hp) : Prop where
  ex : ∃ (o : Obj) (pm ctv : Value) (c1 c' T : Addr) (u : Value) (v : V) (ps : Array Value) (pos : Pos),
    s.heap.get? f = some o /\ o.data = .func (PySem.W.kla_fn "<lambda>" q params body scope [(cx, c1)] pm (.ref c') ctv) /\ H f = none /\
    s.heap.IsCell c1 (some u) /\ H c1 = none /\ RelV v u /\ Rp C.K H v d /\ (T, q) ∈ C.TL /\ H T = some (.tbl ps) /\ TriplesOk ps.toList /\ codeAmong pos ps.toList = some (.ref c')
theorem among_more {pos : Pos} {cv : Value} (l m : List Value) (h : TriplesOk l) (hc : codeAmong pos l = some cv) : codeAmong pos (l ++ m) = some cv := by
  fun_induction TriplesOk l with
  | case1 => simp [codeAmong] at hc
  | case2 a t b u x rest ih =>
    simp only [List.cons_append, codeAmong] at hc ⊢
    split at hc
    · rename_i q; rw [if_pos q]; exact hc
    · rename_i q; rw [if_neg q]; exact ih h hc
  | case3 l h1 h2 => exact h.elim
theorem keep_un {K : PySem.W.Frag} {fs ex : List Addr} {H H' : Hp} {h h' : Heap} (u : Un fs ex H H' h h') : Keep K H H' := fun a vs e => by
  rcases e with (e | ⟨ob, e⟩) | e
  · exact .inl (.inl (u.tups _ _ e))
  · exact .inl (.inr ⟨ob, u.frzs _ _ _ e⟩)
  · exact .inr e
section
variable {C : Ck} {q cx : Str} {params : Arguments} {body : Expr} {scope : Scope} {d : PyData} {f : Addr} {s s' : Shared} {H H' : Hp}
theorem Clos.next {fs : List Addr} (c : Clos C q params body scope cx d f s H) (u : Un fs [] H H' s.heap s'.heap) (ok : ∀ T q ps, (T, q) ∈ C.TL -> H' T = some (.tbl ps) -> TriplesOk ps.toList) : Clos C q params body scope cx d f s' H' := by
  obtain ⟨o, pm, ctv, c1, c', T, uv, v, ps, pos, h1, h2, h3, ⟨oc, h4, h4'⟩, h5, h6, h7, h8, h9, h10, h11⟩ := c.ex
  obtain ⟨sl, a1⟩ := u.any h1 h3 (by simp)
  obtain ⟨sl2, a2⟩ := u.any h4 h5 (by simp)
  obtain ⟨more, a3⟩ := u.tbls _ _ h9
  refine ⟨_, pm, ctv, c1, c', T, uv, v, _, pos, a1, h2, u.free _ _ h1 h3 (by simp), ⟨_, a2, h4'⟩, u.free _ _ h4 h5 (by simp), h6, h7.keep (keep_un u), h8, a3, ok _ _ _ h8 a3, ?_⟩
  rw [Array.toList_append]
  exact among_more _ _ h10 h11
end
/-- the lambda stands at a -/
def Ck.at (C : Ck) (a : Addr) : Ck := { C with fa := some a }
section
variable {C : Ck} {a : Addr} {φ φ' : Nat -> Addr} {H H' : Hp} {n : Nat} {w : W} {ws : List W}
mutual
theorem Rw.back (hfa : C.fa = none) {u : V} {w : W} (h : Rw C φ n H u w) : ∀ {u2 : V}, Rw (C.at a) φ' n H' u2 w -> Rw C φ' n H' u2 w := by
  intro u2 r
  cases h with
  | d _ => cases r with | d r => exact .d r
  | obj _ => cases r with | obj r => exact .obj r
  | scr => cases r; exact Rw.scr (C := C)
  | pack s l => cases r with | pack s2 l2 => exact .pack s2 (RwAll.back hfa l l2)
  | fn h => rw [hfa] at h; cases h
theorem RwAll.back (hfa : C.fa = none) {us : List V} {ws : List W} (h : RwAll C φ n H us ws) : ∀ {us2 : List V}, RwAll (C.at a) φ' n H' us2 ws -> RwAll C φ' n H' us2 ws := by
  intro us2 r
  cases h with
  | nil => cases r; exact .nil
  | cons x l => cases r with | cons y l2 => exact .cons (Rw.back hfa x y) (RwAll.back hfa l l2)
end
theorem Rw.backD {w : W} (d : isD w = true) {u2 : V} (r : Rw (C.at a) φ' n H' u2 w) : Rw C φ' n H' u2 w := by
  cases r with
  | d r => exact .d r
  | scr => exact Rw.scr (C := C)
  | obj h => cases d
  | pack s r => cases d
  | fn h => cases d
theorem RwAll.backD : ∀ {us : List V} {ws : List W}, ws.all isD = true -> RwAll (C.at a) φ' n H' us ws -> RwAll C φ' n H' us ws
  | _, _, _, .nil => .nil
  | _, _, d, .cons x l => by
    rw [List.all_cons, Bool.and_eq_true] at d
    exact .cons (x.backD d.1) (RwAll.backD d.2 l)
theorem RO.backD {mo : MO} {b : Addr} (d : isDO mo = true) (r : RO (C.at a) φ' n H' b mo) : RO C φ' n H' b mo := by
  cases mo with
  | lst ws => obtain ⟨vs, h, r⟩ := r; exact ⟨vs, h, r.backD d⟩
  | kset ds => exact r
  | dic es n => exact r
  | pot es => exact r
theorem RO.back (hfa : C.fa = none) {mo : MO} {b b' : Addr} (old : RO C φ n H b mo) (r : RO (C.at a) φ' n H' b' mo) : RO C φ' n H' b' mo := by
  cases mo with
  | lst ws =>
    obtain ⟨vs0, _, r0⟩ := old
    obtain ⟨vs, h, r⟩ := r
    exact ⟨vs, h, r0.back hfa r⟩
  | kset ds => exact r
  | dic es n => exact r
  | pot es => exact r
end
/-- what a call leaves that tells of no lambda: data, or one new thing of data -/
def plainR (M : Mem) (p : W × Mem) : Prop := (isD p.1 = true /\ Cut M p.2) ∨ ∃ M0 mo, p = (.obj M.length, M0 ++ [mo]) /\ isDO mo = true /\ Cut M M0
section
variable {C : Ck} {a : Addr} {φ φ' : Nat -> Addr} {M M1 : Mem} {H H' : Hp} {v : V} {w : W}
theorem sim_back (hfa : C.fa = none) (S : Sim C φ M H) (S' : Sim (C.at a) φ' M1 H') (h : ∀ (i : Nat) (mo : MO), M1[i]? = some mo -> isDO mo = true ∨ ∃ b, M1.length = M.length /\ RO C φ M.length H b mo) : Sim C φ' M1 H' := by
  refine ⟨fun i mo e => ?_, S'.inj, S'.tab, S'.scr, S'.lam⟩
  have r := S'.ob i mo e
  rcases h i mo e with d | ⟨b, l, old⟩
  · exact RO.backD d r
  · rw [l] at r ⊢
    exact RO.back hfa old r
theorem Step.back (hfa : C.fa = none) (S : Sim C φ M H) (s : Step (C.at a) φ M H φ' M1 H') (r : Rw (C.at a) φ' M1.length H' v w) (hp : plainR M (w, M1)) : Step C φ M H φ' M1 H' /\ Rw C φ' M1.length H' v w := by
  rcases hp with ⟨d, cut⟩ | ⟨M0, mo, e, d, cut⟩
  · refine ⟨⟨s.ext, s.le, s.keep, sim_back hfa S s.sim fun i mo ei => ?_, s.dics⟩, r.backD d⟩
    rcases cut.2 i mo ei with old | d
    · exact .inr ⟨φ i, cut.1, S.ob i mo old⟩
    · exact .inl d
  · cases e
    refine ⟨⟨s.ext, s.le, s.keep, ?_, s.dics⟩, ?_⟩
    · refine ⟨fun i mo' ei => ?_, s.sim.inj, s.sim.tab, s.sim.scr, s.sim.lam⟩
      have r1 := s.sim.ob i mo' ei
      by_cases hi : i < M0.length
      · rw [List.getElem?_append_left hi] at ei
        rcases cut.2 i mo' ei with old | d'
        · have o := S.ob i mo' old
          cases mo' with
          | lst ws =>
            obtain ⟨vs0, _, r0⟩ := o
            obtain ⟨vs, h, r⟩ := r1
            exact ⟨vs, h, (r0.move (n' := (M0 ++ [mo]).length) .refl (fun _ _ => rfl) (by simp [cut.1])).back hfa r⟩
          | kset ds => exact r1
          | dic es n => exact r1
          | pot es => exact r1
        · exact RO.backD d' r1
      · have hi2 : i = M0.length := by
          have := (List.getElem?_eq_some_iff.mp ei).1
          simp at this
          omega
        subst hi2
        rw [List.getElem?_append_right (Nat.le_refl _)] at ei
        simp at ei
        subst ei
        exact RO.backD d r1
    · cases r with | obj h => exact .obj h
end
end Va
namespace Va
open PySem PySem.Spec PyProof.Rows L2 Sa
/-- the def at a keeps the promise sp, its parameters are n, by whatever names -/
structure DfA (P : Program) (w : World) (K : PySem.W.Frag) (mg : Str -> Option Value) (base : Heap) (k : Nat) (a : Addr) (sp : Sp) : Prop where
  ex : ∃ fd ps, FnG P w K mg base k a fd ps sp /\ PySem.W.keepIn K (.ref a) = true /\ Binds K fd ps []
section
variable {P : Program} {w : World} {K : PySem.W.Frag} {mg : Str -> Option Value} {base : Heap} {k k' : Nat} {x : Str} {ps : List Str} {sp : Sp} {a : Addr}
theorem Df.has (D : Df P w K mg base k x ps sp) : ∃ a, mg x = some (.ref a) := by
  obtain ⟨f, fd, G, m, kp, b⟩ := D.ex
  exact ⟨f, m⟩
theorem DfA.mono (D : DfA P w K mg base k a sp) (h : k <= k') : DfA P w K mg base k' a sp := by
  obtain ⟨fd, ps, G, kp, b⟩ := D.ex
  exact ⟨fd, ps, ⟨G.many, fun A outer s H args us vs Q E r1 => G.runs A outer s H args us vs Q E (r1.mono h)⟩, kp, b⟩
end
end Va
namespace Va
open PySem PySem.Spec PyProof.Rows L2 L2.DX Sa PySem.W
def notN : PyData -> Bool
  | .none => false
  | _ => true
def fitLt (x y : PyData) : Bool := flat x && flat y && near x y && notN x && decide (x.depth <= 60)
def oLtD : O2 := fun a b M => match a, b with
  | .d x, .d y => if fitLt x y = true then some (.d (.bool (dataLt x y)), M) else none
  | _, _ => none
end Va
namespace Va
open PySem PySem.Spec PyProof.Rows L2 L2.DX Sa
end Va
namespace Va
open PySem PySem.Spec PyProof.Rows L2 L2.DX Sa
end Va
namespace Sa
open PySem PySem.Spec PyProof.Rows L2
end Sa
namespace Sa
open PySem PySem.Spec PyProof.Rows L2
/-- the pairs that were made -/
structure Prs (P1 P2 : Nat -> Value -> Prop) (lo : Addr) (h : Heap) (as : List Addr) : Prop where
  rise : as.Pairwise (· < ·)
  above : ∀ a ∈ as, lo <= a
  at' : ∀ (j : Nat) (a : Addr), as[j]? = some a -> ∃ x y, P1 j x /\ P2 j y /\ IsTupOf2 h a x y
theorem Prs.lt {P1 P2 : Nat -> Value -> Prop} {lo : Addr} {h : Heap} {as : List Addr} (g : Prs P1 P2 lo h as) {a : Addr} (ha : a ∈ as) : a < h.objs.size := by
  obtain ⟨j, hj⟩ := List.mem_iff_getElem?.mp ha
  obtain ⟨_, _, _, _, e⟩ := g.at' j a hj
  exact Heap.lt_size e
theorem Prs.keep {P1 P2 : Nat -> Value -> Prop} {lo : Addr} {h h' : Heap} {as : List Addr} (g : Prs P1 P2 lo h as) (k : ∀ c o, lo <= c -> h.get? c = some o -> h'.get? c = some o) : Prs P1 P2 lo h' as :=
  ⟨g.rise, g.above, fun j a e => by
    obtain ⟨x, y, p, q, r⟩ := g.at' j a e
    exact ⟨x, y, p, q, k _ _ (g.above a (List.mem_of_getElem? e)) r⟩⟩
theorem Prs.more {P1 P2 : Nat -> Value -> Prop} {lo p : Addr} {h h' : Heap} {as : List Addr} {x y : Value} (g : Prs P1 P2 lo h as) (k : ∀ c o, lo <= c -> h.get? c = some o -> h'.get? c = some o) (hp : h.objs.size = p) (hlo : lo <= p)
    (h1 : P1 as.length x) (h2 : P2 as.length y) (ht : IsTupOf2 h' p x y) : Prs P1 P2 lo h' (as ++ [p]) := by
  have g' := g.keep k
  refine ⟨List.pairwise_append.mpr ⟨g.rise, List.pairwise_singleton _ _, fun a ha b hb => ?_⟩, fun a ha => ?_, fun j a e => ?_⟩
  · rw [List.mem_singleton.mp hb, <- hp]; exact g.lt ha
  · rcases List.mem_append.mp ha with ha | ha
    · exact g.above a ha
    · rw [List.mem_singleton.mp ha]; exact hlo
  · rcases Nat.lt_trichotomy j as.length with l | l | l
    · rw [List.getElem?_append_left l] at e; exact g'.at' j a e
    · subst l
      have : p = a := by simpa using e
      subst this
      exact ⟨x, y, h1, h2, ht⟩
    · have no : (as ++ [p])[j]? = none := List.getElem?_eq_none (by rw [List.length_append, List.length_singleton]; omega)
      rw [no] at e; cases e
end Sa
namespace Sa
open PySem PySem.Spec PyProof.Rows L2
end Sa
namespace Sa
open PySem PySem.Spec PyProof.Rows L2
theorem HasB.at {h h' : Heap} {b : Bool} {a : Addr} {items : Array Value} (x : HasB h b a items) (k : ∀ o, h.get? a = some o -> h'.get? a = some o) : HasB h' b a items := by
  cases b with
  | true => exact Heap.IsList.at x k
  | false => exact Heap.IsTuple.at x k
end Sa
namespace Va
open PySem PySem.Spec PyProof.Rows L2 Sa
end Va
set_option maxHeartbeats 3200000
namespace Gm
open PySem PySem.Spec PyProof.Rows L2 Sa Gn
end Gm
namespace Gm
open PySem PySem.Spec PyProof.Rows L2 Sa Gn
/-- where the generator sleeps: its slots, the cells of what is walked, their state, the index -/
structure Ix where
  σ : L2.St
  fp : List Addr
  tn : Nat -> Heap -> Prop
  i : Nat
structure G2 (Xg : Cx) (σw : L2.St) (gp : Addr × Obj) (ps : Pins) (x : Ix) (H : Hp) (s : Shared) : Prop where
  gg : GG Xg x.σ x.fp x.tn gp ps x.i H s
  keep : ∀ i h h', x.tn i h -> (∀ b ∈ x.fp, ∀ o, h.get? b = some o -> h'.get? b = some o) -> x.tn i h'
  obj : ∀ b ∈ x.fp, ∃ o, s.heap.get? b = some o
  len : σw.length = x.σ.length
  sub : ∀ (j : Nat) v, σw[j]? = some (some v) -> x.σ[j]? = some (some v)
theorem G2.inv {Xg : Cx} {σw : L2.St} {gp : Addr × Obj} {ps : Pins} {x : Ix} {H : Hp} {s : Shared} (G : G2 Xg σw gp ps x H s) : Inv Xg (gp :: ps) σw H s := G.gg.inv.weak G.len G.sub
def GY2 (G : Pins -> Ix -> Hp -> Shared -> Prop) (Pn : Pins -> List V -> Prop) (Yv : NX -> List V -> V -> Hp -> Prop) : Protocol := fun n s0 v s kap =>
  ∃ (ps : Pins) (ys : List V) (i : Ix) (y : V) (H : Hp) (Nx : NX), n + 1 + ys.length = sizeLine + 1 /\ ys.length < sizeLine /\ RelV y v /\ (∀ p ∈ ps, s0.heap.get? p.1 = some p.2) /\ Pn ps ys /\ G ps i H s /\ Yv Nx ys y H /\
    ∀ ps' s', Pn ps' (ys ++ [y]) -> G ps' i H s' -> Nx (ys ++ [y]) H -> kap (.send .none) s'
end Gm
namespace Gm
open PySem PySem.Spec PyProof.Rows L2 Sa Gn
end Gm
namespace Gm
open PySem PySem.Spec PyProof.Rows L2 Sa Gn
section
variable {Xg : Cx} {σw : L2.St} {gp : Addr × Obj} {ps : Pins} {x : Ix} {H : Hp} {s : Shared} {A : Around} {Pn : Pins -> List V -> Prop} {Yv : NX -> List V -> V -> Hp -> Prop} {Qe : NX}
theorem G2.gens {g' : Array GenState} (G : G2 Xg σw gp ps x H s) (h : AllBare g') : G2 Xg σw gp ps x H { s with gens := g' } := ⟨G.gg.gens h, G.keep, G.obj, G.len, G.sub⟩
theorem G2.lay {S : Addr} {obj : Obj} {h' : Heap} {t : Nat} (G : G2 Xg σw gp ps x H s) (k : ∀ b u, s.heap.get? b = some u -> h'.get? b = some u) (hS : h'.get? S = some obj) (new : s.heap.objs.size <= S) (nc : ∀ v, obj.data ≠ .cell v) :
    G2 Xg σw gp ((S, obj) :: ps) x H { s with heap := h', toks := t } :=
  ⟨GG.lay (t := t) G.keep (fun b hb => by obtain ⟨o, e⟩ := G.obj b hb; exact Heap.lt_size e) G.gg k hS new nc, G.keep, fun b hb => by obtain ⟨o, e⟩ := G.obj b hb; exact ⟨o, k b o e⟩, G.len, G.sub⟩
theorem G2.at {S : Addr} {obj : Obj} (G : G2 Xg σw gp ((S, obj) :: ps) x H s) : s.heap.get? S = some obj := G.gg.at
/-- ready to go on -/
def GT2 (Xg : Cx) (σw : L2.St) (gp : Addr × Obj) (Pn : Pins -> List V -> Prop) (Yv : NX -> List V -> V -> Hp -> Prop) (Qe : NX) (A : Around) (gi n : Nat) (ps : Pins) (ys : List V) (s : Shared) : Prop :=
  n + ys.length = sizeLine + 1 /\ ys.length <= sizeLine /\ Pn ps ys /\ ∃ (i : Ix) (H : Hp) (gs : GenState), G2 Xg σw gp ps i H s /\ s.gens[gi]? = some gs /\
    ∀ ps' s', Pn ps' ys -> G2 Xg σw gp ps' i H s' -> gs.Goes (model Xg.prog Xg.w) A.in1 (GRx Xg σw gp Pn Qe) (GY2 (G2 Xg σw gp) Pn Yv) n (.send .none) s'
end
end Gm
namespace Gm
open PySem PySem.Spec PyProof.Rows L2 Sa Gn
end Gm
namespace Gm
open PySem PySem.Spec PyProof.Rows L2 Sa Gn
section
variable {Xg : Cx} {gi : Nat}
def Wakes2 (Xg : Cx) (σw : L2.St) (gp : Addr × Obj) (gi : Nat) (A0 A : Around) : Prop :=
  ∀ (Pn : Pins -> List V -> Prop) (Yv : NX -> List V -> V -> Hp -> Prop) (Qe : NX) (n : Nat) (ps : Pins) (ys : List V) (s : Shared) (Q : Option Value -> Shared -> Prop) (E : Value -> Shared -> Prop), GT2 Xg σw gp Pn Yv Qe A0 gi n ps ys s ->
    (∀ m ps ys y v H i Nx s', n = m + 1 -> ys.length < sizeLine -> RelV y v -> (∀ p ∈ ps, s.heap.get? p.1 = some p.2) -> Pn ps ys -> G2 Xg σw gp ps i H s' -> Yv Nx ys y H ->
      (Nx (ys ++ [y]) H -> ∀ ps' s'', Pn ps' (ys ++ [y]) -> G2 Xg σw gp ps' i H s'' -> s''.gens = s'.gens -> GT2 Xg σw gp Pn Yv Qe A0 gi m ps' (ys ++ [y]) s'') -> Q (some v) s') ->
    (∀ ps ys H s', (∀ p ∈ ps, s.heap.get? p.1 = some p.2) -> Pn ps ys -> Inv Xg (gp :: ps) σw H s' -> Qe ys H -> Q none s') -> wpAny (model Xg.prog Xg.w) A (pyNext (.ref gp.1)) Q E s
theorem Wakes2.up {σw : L2.St} {gp : Addr × Obj} {A0 A : Around} (w : Wakes2 Xg σw gp gi A0 A.in1) : Wakes2 Xg σw gp gi A0 A :=
  fun Pn Yv Qe n ps ys s Q E st i d => wpAny_of_in1 (w Pn Yv Qe n ps ys s Q E st i d)
end
end Gm
set_option maxHeartbeats 1000000
namespace Va
open PySem PySem.Spec PyProof.Rows L2 Sa Gn Gm
end Va
set_option maxHeartbeats 1600000
namespace Sa
open PySem PySem.Spec PyProof.Rows L2
end Sa
namespace Va
open PySem PySem.Spec PyProof.Rows L2 Sa
end Va
namespace Sa
open PySem PySem.Spec PyProof.Rows L2
end Sa
namespace Va
open PySem PySem.Spec PyProof.Rows L2 Sa
end Va
namespace Sa
open PySem PySem.Spec PyProof.Rows L2 PySem.W DT L2.DX
end Sa
set_option maxHeartbeats 1000000
namespace Va
open PySem PySem.Spec PyProof.Rows L2 L2.DX Sa
end Va
namespace Va
open PySem PySem.Spec PyProof.Rows L2 Sa PySem.W DT
end Va
namespace Va
open PySem PySem.Spec PyProof.Rows L2 Sa PySem.W
end Va
namespace Va
open PySem PySem.Spec PyProof.Rows L2 L2.DX Sa
end Va
namespace Va
open PySem PySem.Spec PyProof.Rows L2 Sa
/-- the mark of the exception of the class number c -/
def exW (c : Nat) : W := .pack [.fn, .d (.int c)]
def isX : W -> Bool
  | .pack (.fn :: _) => true
  | _ => false
def exN : W -> Nat
  | .pack [.fn, .d (.int c)] => c.toNat
  | _ => 0
@[simp] theorem isX_ex (c : Nat) : isX (exW c) = true := rfl
@[simp] theorem exN_ex (c : Nat) : exN (exW c) = c := rfl
@[simp] theorem isX_d (d : PyData) : isX (.d d) = false := rfl
@[simp] theorem isX_o (i : Nat) : isX (.obj i) = false := rfl
def FinX (C : Ck) (cl : Nat -> Value) (W : WX) (D : Ends) (φ : Nat -> Addr) (M : Mem) (H : Hp) : Out -> Prop
  | .rt w M' => (isX w = true -> ∀ σ' φ' H', Step C φ M H φ' M' H' -> W (cl (exN w)) none σ' H') /\ (isX w = false -> ∀ v φ' H', Step C φ M H φ' M' H' -> Rw C φ' M'.length H' v w -> D.rt v H')
  | .nx ρ' M' => ∀ σ' φ' H', Step C φ M H φ' M' H' -> EnvR C φ' M'.length H' σ' ρ' -> D.nx σ' H'
  | .bk ρ' M' => ∀ σ' φ' H', Step C φ M H φ' M' H' -> EnvR C φ' M'.length H' σ' ρ' -> D.bk σ' H'
  | .ct ρ' M' => ∀ σ' φ' H', Step C φ M H φ' M' H' -> EnvR C φ' M'.length H' σ' ρ' -> D.ct σ' H'
def tsX (C : Ck) (cl : Nat -> Value) (W : WX) (g : EvS) : TS := fun D σ H => ∃ ρ φ M o, EnvR C φ M.length H σ ρ /\ Sim C φ M H /\ g ρ M = some o /\ FinX C cl W D φ M H o
end Va
namespace Va
open PySem PySem.Spec PyProof.Rows L2 Sa
/-- as FnG, exceptions may leave it -/
structure FnGX (P : Program) (w : World) (K : PySem.W.Frag) (mg : Str -> Option Value) (base : Heap) (k : Nat) (f : Addr) (fd : FuncData) (ps : List Str) (sp : Sp) : Prop where
  many : ∀ vs H Q E, sp vs H Q E -> vs.length = ps.length
  runs : ∀ (A : Around) (outer : List Env) (s : Shared) (H : Hp) (args : Args) (us : List Value) (vs : List V) (Q : VK) (E : XK), Room k A -> Free A ->
    Env0 P w K mg base A outer s H -> BindsTo s fd args (ps.zip us) -> Vals vs us -> sp vs H Q E ->
    codeAny (model P w) A (.call (.ref f) args) (CR (L2N.CX P w) outer P w H s Q E) s
section
variable {P : Program} {w : World} {K : PySem.W.Frag} {mg : Str -> Option Value} {base : Heap}
theorem okGX {x qual : Str} {st : Stmt} {f : Addr} {fd : FuncData} {N ps : List Str} {k : Nat} {sp : Sp} (F : Fun K x qual st f fd) (S : FnScope N ps (defScope st))
    (many : ∀ vs H Q E, sp vs H Q E -> vs.length = ps.length)
    (walk : ∀ (cdv : Value) (A : Around) (outer : List Env) (s : Shared) (H : Hp) (vs : List V) (Q : VK) (E : XK), fd.code = cdv -> Room k (A.deeper (envOfC qual (defScope st) s.heap.objs.size f cdv)) -> Free A ->
      sp vs H Q E -> ∃ t, PSs (cxOf (L2N.CX P w) P w K mg base N qual (defScope st) f cdv A outer s H E) (defBody st) t /\ t ⟨fun _ H' => Q .non H', Q, fun _ _ => False, fun _ _ => False⟩ (start N vs) H) :
    FnGX P w K mg base (k + 1) f fd ps sp := by
  obtain ⟨oc, od, kV, doc, pm, an, cdv, ct, osl, rfl, lk, hcd⟩ := F.ex
  refine ⟨many, fun A outer s H args us vs Q E hr hfree e0 hb rel hsp => ?_⟩
  have keepB : ∀ b o, base.get? b = some o -> s.heap.get? b = some o := fun b o e => (e0.bs b o e).1
  have inH : K.In s.heap := e0.mod.kin.keeps keepB
  have noLim : s.heap.NoLimit := e0.mod.nolimit.keeps keepB
  refine codeAny_call_function hr.depth (inH _ _ lk) rfl S.co S.gen rfl (PySem.W.codeRec_of inH hcd) (hb _ _ _ _ ?_)
  refine wpAny_newFunctionEnv_cells S.kind (fun y hy => ?_) fun env he s1 call => ?_
  · obtain ⟨n, v⟩ := y
    rcases S.par n (List.of_mem_zip hy).1 with isLocal | isCell
    · exact .inl isLocal
    · exact .inr ⟨isCell, PySem.W.cellsFrom_some _ _ _ (.inl isCell)⟩
  subst he
  refine ⟨noLim.keeps call.toInCall.keep, codeAny_func ?_⟩
  obtain ⟨t, body, reading⟩ := walk cdv A outer s H vs Q E rfl (hr.deeper _) hfree hsp
  have J0 : Inv (cxOf (L2N.CX P w) P w K mg base N qual (defScope st) f cdv A outer s H E) [] (start N vs) H s1 := inv_start S hr.hd e0 (many _ _ _ _ hsp) rel call
  refine wpAny_mono (body.run [] s1 (start N vs) H _ J0 reading) (fun flow s' out => ?_) fun _ _ bad => bad
  cases flow with
  | ret u =>
    obtain ⟨v, _, H', J, rv, q⟩ := out
    exact ⟨v, H', J.os, J.bare, J.base, J.hok, rv, q⟩
  | next =>
    obtain ⟨_, H', J, q⟩ := out
    exact ⟨V.non, H', J.os, J.bare, J.base, J.hok, (rfl : Value.none = Value.none), q⟩
  | brk =>
    obtain ⟨_, _, _, q⟩ := out
    exact q.elim
  | cont =>
    obtain ⟨_, _, _, q⟩ := out
    exact q.elim
end
structure DfX (P : Program) (w : World) (K : PySem.W.Frag) (mg : Str -> Option Value) (base : Heap) (k : Nat) (x : Str) (ps : List Str) (sp : Sp) : Prop where
  ex : ∃ f fd, FnGX P w K mg base k f fd ps sp /\ mg x = some (.ref f) /\ PySem.W.keepIn K (.ref f) = true /\ Binds K fd ps []
/-- F may give back a mark -/
def spX (C : Ck) (cl : Nat -> Value) (n : Nat) (F : Fn) : Sp := fun vs H Q E => ∃ φ M ws w M', RwAll C φ M.length H vs ws /\ vs.length = n /\ Sim C φ M H /\ F ws M = some (w, M') /\
  (isX w = true -> ∀ φ' H', Step C φ M H φ' M' H' -> E (cl (exN w)) none H') /\ (isX w = false -> ∀ v φ' H', Step C φ M H φ' M' H' -> Rw C φ' M'.length H' v w -> Q v H')
/-- a def's wish about exceptions -/
abbrev wDef (E : XK) : WX := fun cls d _ H => E cls d H
section
variable {P : Program} {w : World} {mg : Str -> Option Value} {base : Heap} {C : Ck} {cl : Nat -> Value} {k n : Nat} {x : Str} {st : Stmt} {N ps : List Str} {F : Fn} {g : EvS}
theorem run_bodyX {H : Hp} {vs : List V} {Q : VK} {E : XK} (hn : n = N.length) (h : spX C cl ps.length (fnV n g) vs H Q E) : tsX C cl (wDef E) g ⟨fun _ H' => Q .non H', Q, fun _ _ => False, fun _ _ => False⟩ (L2.start N vs) H := by
  obtain ⟨φ, M, ws, w', M', r, hl, sim, e, q⟩ := h
  obtain ⟨o, e1, e⟩ := bsome e
  subst hn
  refine ⟨_, φ, M, o, start_rel r, sim, e1, ?_⟩
  cases o with
  | rt w2 M2 => cases e; exact ⟨fun x _ φ' H' s => q.1 x φ' H' s, q.2⟩
  | nx ρ2 M2 => cases e; exact fun σ' φ' H' s _ => q.2 rfl _ φ' H' s (.d .non)
  | bk ρ2 M2 => cases e
  | ct ρ2 M2 => cases e
theorem DfX.of (S : Stands C.K mg x st ps) (sc : FnScope N ps (defScope st)) (hn : n = N.length)
    (walk : ∀ (f : Addr) (cdv : Value) (A : Around) (outer : List Env) (s : Shared) (H : Hp) (E : XK), Room k (A.deeper (envOfC x (defScope st) s.heap.objs.size f cdv)) -> Free A ->
      PSs (cxOf (L2N.CX P w) P w C.K mg base N x (defScope st) f cdv A outer s H E) (defBody st) (tsX C cl (wDef E) g)) :
    DfX P w C.K mg base (k + 1) x ps (spX C cl ps.length (fnV n g)) := by
  obtain ⟨f, fd, F, m, b⟩ := S.ex
  exact ⟨f, fd, okGX F sc (fun vs H Q E ⟨_, _, _, _, _, _, hl, _⟩ => hl) fun cdv A outer s H vs Q E _ hr hf h => ⟨_, walk f cdv A outer s H E hr hf, run_bodyX hn h⟩, m, F.kp, b⟩
theorem DfX.weak {sp sp' : Sp} {K : PySem.W.Frag} (D : DfX P w K mg base k x ps sp) (h : ∀ vs H Q E, sp' vs H Q E -> sp vs H Q E) : DfX P w K mg base k x ps sp' := by
  obtain ⟨f, fd, G, m, kp, b⟩ := D.ex
  exact ⟨f, fd, ⟨fun vs H Q E q => G.many vs H Q E (h _ _ _ _ q), fun A outer s H args us vs Q E r1 r2 r3 r4 r5 r6 => G.runs A outer s H args us vs Q E r1 r2 r3 r4 r5 (h _ _ _ _ r6)⟩, m, kp, b⟩
/-- what is made on the way is let go where data is given back -/
noncomputable def nfX (F : Fn) : Fn := fun ws M => (F ws M).map fun p => if isD p.1 = true then norm M p else p
theorem spX_nf {vs : List V} {H : Hp} {Q : VK} {E : XK} (h : spX C cl n (nfX F) vs H Q E) : spX C cl n F vs H Q E := by
  obtain ⟨φ, M, ws, w1, M1, r, hl, sim, e, q⟩ := h
  obtain ⟨⟨w0, M0⟩, e0, e⟩ := Option.map_eq_some_iff.mp e
  split at e
  · rename_i dd
    have x0 : isX w0 = false := by
      cases w0 with
      | pack ws => cases dd
      | _ => rfl
    unfold norm at e
    split at e
    · rename_i c
      obtain ⟨d, le, cut⟩ := c
      cases e
      have e1 : F ws M = some (w0, M0.take M.length ++ M0.drop M.length) := by rw [List.take_append_drop]; exact e0
      exact ⟨φ, M, ws, w0, _, r, hl, sim, e1, ⟨fun x => (by rw [x0] at x; cases x), fun _ v φ' H' s rv => q.2 x0 v φ' H' (Step.cut sim s cut) (rv.shrink d)⟩⟩
    · split at e
      · rename_i i hi
        simp only at hi
        subst hi
        cases dd
      · cases e
        exact ⟨φ, M, ws, _, _, r, hl, sim, e0, q⟩
  · cases e
    exact ⟨φ, M, ws, _, _, r, hl, sim, e0, q⟩
theorem DfX.nf (D : DfX P w C.K mg base k x ps (spX C cl n F)) : DfX P w C.K mg base k x ps (spX C cl n (nfX F)) := D.weak fun vs H Q E h => spX_nf h
end
end Va
namespace Va
open PySem PySem.Spec PyProof.Rows L2 Sa
end Va
namespace Va
open PySem PySem.Spec PyProof.Rows L2 L2.DX Sa
end Va
namespace Va
open PySem PySem.Spec PyProof.Rows L2 L2.DX Sa
end Va
namespace Va
open PySem PySem.Spec PyProof.Rows L2 Sa Gn
/-- it can be shown -/
def ShowOkS (d : PyData) : Prop := match d with
  | .str x => (reprText x).length <= sizeLine
  | d => ShowOk d
theorem ShowOkS.of {d : PyData} (h : ShowOk d) : ShowOkS d := by
  cases d with
  | str x => exact h.elim
  | int i => exact h
  | bool b => exact h
  | none => exact h
  | tuple ds => exact h
  | list ds => exact h
  | dict ds => exact h
end Va
namespace Va
open PySem PySem.Spec PyProof.Rows L2 Sa Gn
mutual
inductive Sh (h : Heap) : Value -> PyData -> Prop
  | non : Sh h .none .none
  | bl (b : Bool) : Sh h (.bool b) (.bool b)
  | int (i : Int) (t : Tok) : Sh h (.int i t) (.int i)
  | str (x : Str) (t : Tok) : Sh h (.str x t) (.str x)
  | lst {a : Addr} {o : Obj} {vs : Array Value} {n : Nat} {xs : List PyData} : h.get? a = some o -> o.cls = .type "list" -> o.data = .seq vs n -> Shs h vs.toList xs -> Sh h (.ref a) (.list xs)
  | tup {a : Addr} {o : Obj} {vs : Array Value} {n : Nat} {xs : List PyData} : h.get? a = some o -> o.cls = .type "tuple" -> o.data = .seq vs n -> Shs h vs.toList xs -> Sh h (.ref a) (.tuple xs)
  | dic {a : Addr} {o : Obj} {es : Array DictEntry} {n : Nat} {kvs : List (PyData × PyData)} : (a == sysModules) = false -> h.get? a = some o -> o.cls = .type "dict" -> o.data = .dict es n ->
      Shs h (es.toList.map (·.key)) (kvs.map (·.1)) -> Shs h (es.toList.map (·.val)) (kvs.map (·.2)) -> Sh h (.ref a) (.dict kvs)
inductive Shs (h : Heap) : List Value -> List PyData -> Prop
  | nil : Shs h [] []
  | cons {v : Value} {vs : List Value} {d : PyData} {ds : List PyData} : Sh h v d -> Shs h vs ds -> Shs h (v :: vs) (d :: ds)
end
section
variable {h : Heap}
mutual
theorem Sh.reads : ∀ {v : Value} {d : PyData}, Sh h v d -> ∃ as, Reads h v d as
  | _, _, .non => ⟨_, .none⟩
  | _, _, .bl b => ⟨_, .bool b⟩
  | _, _, .int i t => ⟨_, .int i t⟩
  | _, _, .str x t => ⟨_, .str x t⟩
  | _, _, .lst h1 h2 h3 q => let ⟨_, r⟩ := Shs.reads q; ⟨_, .list h1 h2 h3 r⟩
  | _, _, .tup h1 h2 h3 q => let ⟨_, r⟩ := Shs.reads q; ⟨_, .tuple h1 h2 h3 r⟩
  | _, _, .dic _ h1 h2 h3 q1 q2 => let ⟨_, r1⟩ := Shs.reads q1; let ⟨_, r2⟩ := Shs.reads q2; ⟨_, .dict h1 h2 h3 r1 r2⟩
theorem Shs.reads : ∀ {vs : List Value} {ds : List PyData}, Shs h vs ds -> ∃ as, ReadsAll h vs ds as
  | _, _, .nil => ⟨_, .nil⟩
  | _, _, .cons q r => let ⟨_, a⟩ := Sh.reads q; let ⟨_, b⟩ := Shs.reads r; ⟨_, .cons a b⟩
end
/-- what its text rests on: places of things that are less deep -/
def TextAt (prog : Program) (w : World) (h : Heap) (v : Value) (d : PyData) : Prop := ∃ bs, ReadAtMost h d.depth bs /\ ReprK prog w bs h d.depth v d.shown
def TextsAt (prog : Program) (w : World) (h : Heap) (vs : List Value) (ds : List PyData) : Prop := ∃ bs, ReadAtMost h (PyData.depthAll ds) bs /\ ReprAllK prog w bs h (PyData.depthAll ds) vs (PyData.shownAll ds)
theorem not_in {a : Addr} {d : PyData} {n : Nat} {bs : List Addr} (q : Sh h (.ref a) d) (lt : n < d.depth) (hb : ReadAtMost h n bs) : a ∉ bs := let ⟨_, r⟩ := q.reads; not_mem_of_deeper r lt hb
theorem more_at {a : Addr} {d : PyData} {n : Nat} {bs : List Addr} (q : Sh h (.ref a) d) (lt : n <= d.depth) (hb : ReadAtMost h n bs) : ReadAtMost h d.depth (a :: bs) := let ⟨_, r⟩ := q.reads; ReadAtMost.cons r lt hb
theorem TextsAt.two {kvs : List (PyData × PyData)} {ks vs : List Value} (t1 : TextsAt prog w h ks (kvs.map (·.1))) (t2 : TextsAt prog w h vs (kvs.map (·.2))) : ∃ bs, ReadAtMost h (PyData.depthKv kvs) bs /\
    ReprAllK prog w bs h (PyData.depthKv kvs) ks (PyData.shownAll (kvs.map (·.1))) /\ ReprAllK prog w bs h (PyData.depthKv kvs) vs (PyData.shownAll (kvs.map (·.2))) := by
  obtain ⟨b1, a1, k1⟩ := t1
  obtain ⟨b2, a2, k2⟩ := t2
  exact ⟨b1 ++ b2, (a1.mono (PyData.depthAll_keys_le kvs)).append (a2.mono (PyData.depthAll_vals_le kvs)), k1.more_le (fun b hb => List.mem_append_left _ hb) (PyData.depthAll_keys_le kvs), k2.more_le (fun b hb => List.mem_append_right _ hb) (PyData.depthAll_vals_le kvs)⟩
theorem len_list {xs : List PyData} (hz : (PyData.list xs).shown.length <= sizeLine) : ∀ t ∈ PyData.shownAll xs, t.length <= sizeLine := fun t ht => Nat.le_trans (listText_mem_le ht) (by simpa only [PyData.shown] using hz)
theorem len_tuple {xs : List PyData} (hz : (PyData.tuple xs).shown.length <= sizeLine) : ∀ t ∈ PyData.shownAll xs, t.length <= sizeLine := fun t ht => Nat.le_trans (tupleText_mem_le ht) (by simpa only [PyData.shown] using hz)
theorem len_keys {kvs : List (PyData × PyData)} (hz : (PyData.dict kvs).shown.length <= sizeLine) : ∀ t ∈ PyData.shownAll (kvs.map (·.1)), t.length <= sizeLine := fun t ht =>
  let ⟨_, hp, hl⟩ := PyData.shownKv_key_le kvs t ht; Nat.le_trans hl (Nat.le_trans (dictText_mem_le hp) (by simpa only [PyData.shown] using hz))
theorem len_vals {kvs : List (PyData × PyData)} (hz : (PyData.dict kvs).shown.length <= sizeLine) : ∀ t ∈ PyData.shownAll (kvs.map (·.2)), t.length <= sizeLine := fun t ht =>
  let ⟨_, hp, hl⟩ := PyData.shownKv_val_le kvs t ht; Nat.le_trans hl (Nat.le_trans (dictText_mem_le hp) (by simpa only [PyData.shown] using hz))
theorem dp_list {xs : List PyData} : (PyData.list xs).depth = PyData.depthAll xs + 1 := by simp only [PyData.depth]
theorem dp_tuple {xs : List PyData} : (PyData.tuple xs).depth = PyData.depthAll xs + 1 := by simp only [PyData.depth]
theorem dp_dict {kvs : List (PyData × PyData)} : (PyData.dict kvs).depth = PyData.depthKv kvs + 1 := by simp only [PyData.depth]
mutual
theorem Sh.text : ∀ {v : Value} {d : PyData}, Sh h v d -> d.showable = true -> d.shown.length <= sizeLine -> TextAt prog w h v d
  | _, _, .non, _, _ => ⟨[], (fun _ z => nomatch z), by simp only [PyData.shown]; exact .of_is ReprIs.none _ _ _⟩
  | _, _, .bl b, _, _ => ⟨[], (fun _ z => nomatch z), by simp only [PyData.shown]; exact .of_is (ReprIs.bool b) _ _ _⟩
  | _, _, .int i t, s, _ => ⟨[], (fun _ z => nomatch z), by simp only [PyData.shown]; exact .of_is (ReprIs.int t (by simpa [PyData.showable] using s)) _ _ _⟩
  | _, _, .str x t, _, z => ⟨[], (fun _ z => nomatch z), by simp only [PyData.shown]; exact .of_is (ReprIs.str x t (by simpa only [PyData.shown] using z)) _ _ _⟩
  | _, _, .lst (a := a) (vs := vs) (xs := xs) h1 h2 h3 q, s, z => by
    obtain ⟨bs, hb, hk⟩ := Shs.text q (by simpa [PyData.showable] using s) (len_list z)
    have me : Sh h (.ref a) (.list xs) := .lst h1 h2 h3 q
    have lt : PyData.depthAll xs < (PyData.list xs).depth := by rw [dp_list]; omega
    refine ⟨a :: bs, more_at me (Nat.le_of_lt lt) hb, ?_⟩
    rw [dp_list]
    simp only [PyData.shown]
    obtain ⟨l⟩ := vs
    cases l with
    | nil =>
      have q' : Shs h [] xs := q
      cases q'
      simp only [PyData.shownAll, listText_nil]
      exact ReprK.listEmpty h1 h2 h3
    | cons x l => exact ReprK.list h1 h2 h3 (not_in me lt hb) (by simpa using hk.length_eq) (fun i y e => hk.item i y (by simpa using e))
  | _, _, .tup (a := a) (xs := xs) h1 h2 h3 q, s, z => by
    obtain ⟨bs, hb, hk⟩ := Shs.text q (by simpa [PyData.showable] using s) (len_tuple z)
    have me : Sh h (.ref a) (.tuple xs) := .tup h1 h2 h3 q
    have lt : PyData.depthAll xs < (PyData.tuple xs).depth := by rw [dp_tuple]; omega
    refine ⟨a :: bs, more_at me (Nat.le_of_lt lt) hb, ?_⟩
    rw [dp_tuple]
    simp only [PyData.shown]
    exact ReprK.tuple h1 h2 h3 (not_in me lt hb) hk
  | _, _, .dic (a := a) (es := es) (kvs := kvs) sm h1 h2 h3 q1 q2, s, z => by
    obtain ⟨s1, s2⟩ := PyData.showableKv_split kvs (by simpa [PyData.showable] using s)
    obtain ⟨bs, hb, k1, k2⟩ := (Shs.text q1 s1 (len_keys z)).two (Shs.text q2 s2 (len_vals z))
    have me : Sh h (.ref a) (.dict kvs) := .dic sm h1 h2 h3 q1 q2
    have lt : PyData.depthKv kvs < (PyData.dict kvs).depth := by rw [dp_dict]; omega
    refine ⟨a :: bs, more_at me (Nat.le_of_lt lt) hb, ?_⟩
    rw [dp_dict]
    simp only [PyData.shown, PyData.shownKv_eq]
    exact ReprK.dict h1 h2 h3 sm (not_in me lt hb) (ReprEntriesK.of_two es.toList _ _ k1 k2)
theorem Shs.text : ∀ {vs : List Value} {ds : List PyData}, Shs h vs ds -> PyData.showableAll ds = true -> (∀ t ∈ PyData.shownAll ds, t.length <= sizeLine) -> TextsAt prog w h vs ds
  | _, _, .nil, _, _ => ⟨[], (fun _ z => nomatch z), by simp only [PyData.shownAll]; exact .nil⟩
  | _, _, .cons (d := d) (ds := ds) q r, s, z => by
    have s' : d.showable = true /\ PyData.showableAll ds = true := by simpa [PyData.showableAll] using s
    obtain ⟨b1, a1, k1⟩ := Sh.text q s'.1 (z _ (by simp only [PyData.shownAll]; exact List.mem_cons_self ..))
    obtain ⟨b2, a2, k2⟩ := Shs.text r s'.2 (fun t ht => z t (by simp only [PyData.shownAll]; exact List.mem_cons_of_mem _ ht))
    have m1 : d.depth <= PyData.depthAll (d :: ds) := by simp only [PyData.depthAll]; omega
    have m2 : PyData.depthAll ds <= PyData.depthAll (d :: ds) := by simp only [PyData.depthAll]; omega
    refine ⟨b1 ++ b2, (a1.mono m1).append (a2.mono m2), ?_⟩
    simp only [PyData.shownAll]
    exact .cons ((k1.more fun b hb => List.mem_append_left _ hb).level_le m1) (k2.more_le (fun b hb => List.mem_append_right _ hb) m2)
end
theorem Sh.shows {a : Addr} {d : PyData} (q : Sh h (.ref a) d) (hs : d.showable = true) (hz : d.shown.length <= sizeLine) : ∃ T idr, ShowsBy prog w h a d T idr := by
  have me := q
  cases q with
  | lst h1 h2 h3 q =>
    rename_i o vs n xs
    obtain ⟨bs, hb, hk⟩ := Shs.text (prog := prog) (w := w) q (by simpa [PyData.showable] using hs) (len_list hz)
    have na : a ∉ bs := not_in me (by rw [dp_list]; omega) hb
    refine ⟨"list", "list.__repr__", F.slot_list_repr.toG, F.slot_list_str, F.slot_list_format, fun s k => ⟨o, k _ _ h1, h2⟩, fun A E s Q hg hu k hQ => ?_⟩
    rw [dp_list] at hu
    simp only [PyData.shown] at hQ hz
    obtain ⟨l⟩ := vs
    cases l with
    | nil =>
      have q' : Shs h [] xs := q
      cases q'
      simp only [PyData.shownAll, listText_nil] at hQ
      exact call_list_repr_empty ⟨o, k _ _ h1, h2⟩ (k _ _ h1) h3 (hQ s.heap _ _ fun _ _ e => e)
    | cons x l => exact call_list_reprK h1 h2 h3 na (by simpa using hk.length_eq) (fun i y e => hk.item i y (by simpa using e)) hg (fun b _ => Clear.nil b) hu k hQ hz
  | tup h1 h2 h3 q =>
    rename_i o vs n xs
    obtain ⟨bs, hb, hk⟩ := Shs.text (prog := prog) (w := w) q (by simpa [PyData.showable] using hs) (len_tuple hz)
    have na : a ∉ bs := not_in me (by rw [dp_tuple]; omega) hb
    refine ⟨"tuple", "tuple.__repr__", F.slot_tuple_repr, F.slot_tuple_str, F.slot_tuple_format, fun s k => ⟨o, k _ _ h1, h2⟩, fun A E s Q hg hu k hQ => ?_⟩
    rw [dp_tuple] at hu
    simp only [PyData.shown] at hQ hz
    exact call_tuple_reprK h1 h2 h3 na hk hg (fun b _ => Clear.nil b) hu k hQ hz
  | dic sm h1 h2 h3 q1 q2 =>
    rename_i o es n kvs
    obtain ⟨s1, s2⟩ := PyData.showableKv_split kvs (by simpa [PyData.showable] using hs)
    obtain ⟨bs, hb, k1, k2⟩ := (Shs.text (prog := prog) (w := w) q1 s1 (len_keys hz)).two (Shs.text (prog := prog) (w := w) q2 s2 (len_vals hz))
    have na : a ∉ bs := not_in me (by rw [dp_dict]; omega) hb
    refine ⟨"dict", "dict.__repr__", F.slot_dict_repr, F.slot_dict_str, F.slot_dict_format, fun s k => ⟨o, k _ _ h1, h2⟩, fun A E s Q hg hu k hQ => ?_⟩
    rw [dp_dict] at hu
    simp only [PyData.shown, PyData.shownKv_eq] at hQ hz
    exact call_dict_reprK h1 h2 h3 sm na (ReprEntriesK.of_two es.toList _ _ k1 k2) hg (fun b _ => Clear.nil b) hu k hQ hz
end
mutual
inductive ShV (K : PySem.W.Frag) (w : World) (H : Hp) : V -> PyData -> Prop
  | dat {v : V} {d : PyData} : Rp K H v d -> ShV K w H v d
  | lst {a : Addr} {xs : List V} {ds : List PyData} : SqL K H a xs -> ShVs K w H xs ds -> ShV K w H (.ref a) (.list ds)
  | tup {a : Addr} {xs : List V} {ds : List PyData} : SqT K H a xs -> ShVs K w H xs ds -> ShV K w H (.ref a) (.tuple ds)
  | dic {a : Addr} {L : List KEnt} {es : List (PyData × PyData)} : KdAt w H a L -> DicR K H L es -> ShV K w H (.ref a) (.dict es)
inductive ShVs (K : PySem.W.Frag) (w : World) (H : Hp) : List V -> List PyData -> Prop
  | nil : ShVs K w H [] []
  | cons {v : V} {vs : List V} {d : PyData} {ds : List PyData} : ShV K w H v d -> ShVs K w H vs ds -> ShVs K w H (v :: vs) (d :: ds)
end
section
variable {X : Cx} {pins : List (Addr × Obj)} {σ : L2.St} {H : Hp} {s : Shared}
mutual
theorem rp_sh (I : Inv X pins σ H s) : ∀ {v : V} {d : PyData} {u : Value}, Rp X.K H v d -> RelV v u -> Sh s.heap u d
  | _, _, _, .non, r => by cases r; exact .non
  | _, _, _, .bl b, r => by cases r; exact .bl b
  | _, _, _, .int i, r => by obtain ⟨t, rfl⟩ := r; exact .int i t
  | _, _, _, .str x, r => by obtain ⟨t, rfl⟩ := r; exact .str x t
  | _, _, _, .tup sq q, r => by
    cases r
    obtain ⟨its, rv, ⟨o, ho, hc, n, hd⟩, _⟩ := I.tuple sq
    exact .tup ho hc hd (rps_sh I q rv)
theorem rps_sh (I : Inv X pins σ H s) : ∀ {vs : List V} {ds : List PyData} {us : List Value}, RpAll X.K H vs ds -> Vals vs us -> Shs s.heap us ds
  | _, _, _, .nil, r => by cases r; exact .nil
  | _, _, _, .cons a q, r => by
    cases r with
    | cons r1 r2 => exact .cons (rp_sh I a r1) (rps_sh I q r2)
end
theorem dic_sh (I : Inv X pins σ H s) {L : List KEnt} {es : List (PyData × PyData)} (q : DicR X.K H L es) : ∀ {xs : List (NestedKey × Addr × Value)}, Paired kdRel L xs ->
    Shs s.heap (xs.map fun x => .ref x.2.1) (es.map (·.1)) /\ Shs s.heap (xs.map (·.2.2)) (es.map (·.2)) := by
  induction q with
  | nil => intro xs p; cases p; exact ⟨.nil, .nil⟩
  | cons a f dp v _ ih =>
    intro xs p
    cases p with
    | cons r p =>
      obtain ⟨_, e2, rv⟩ := r
      obtain ⟨i1, i2⟩ := ih p
      exact ⟨.cons (rp_sh I a (by dsimp only; rw [e2]; rfl)) i1, .cons (rp_sh I v rv) i2⟩
mutual
theorem ShV.at (I : Inv X pins σ H s) : ∀ {v : V} {d : PyData} {u : Value}, ShV X.K X.w H v d -> RelV v u -> Sh s.heap u d
  | _, _, _, .dat q, r => rp_sh I q r
  | _, _, _, .lst sq q, r => by
    cases r
    obtain ⟨its, rv, ⟨o, n, ho, hc, _, hd⟩, _⟩ := I.list sq
    exact .lst ho hc hd (ShVs.at I q rv)
  | _, _, _, .tup sq q, r => by
    cases r
    obtain ⟨its, rv, ⟨o, ho, hc, n, hd⟩, _⟩ := I.tuple sq
    exact .tup ho hc hd (ShVs.at I q rv)
  | _, _, _, .dic at' q, r => by
    cases r
    obtain ⟨sm, _, xs, pr, ⟨o, es, ep, ho, ex, hd, he⟩, _⟩ := kd_at I at'
    obtain ⟨q1, q2⟩ := dic_sh I q pr
    refine .dic sm ho ex.1 hd ?_ ?_
    · rw [he, List.map_map]; exact q1
    · rw [he, List.map_map]; exact q2
theorem ShVs.at (I : Inv X pins σ H s) : ∀ {vs : List V} {ds : List PyData} {us : List Value}, ShVs X.K X.w H vs ds -> Vals vs us -> Shs s.heap us ds
  | _, _, _, .nil, r => by cases r; exact .nil
  | _, _, _, .cons a q, r => by
    cases r with
    | cons r1 r2 => exact .cons (ShV.at I a r1) (ShVs.at I q r2)
end
end
/-- it can be shown -/
def ShowW (d : PyData) : Prop := d.showable = true /\ d.depth <= 60 /\ d.shown.length <= sizeLine
def rRepW (K : PySem.W.Frag) (w : World) : List V -> Hp -> VK -> Prop := fun xs H Q => ∃ (x : V) (d : PyData), xs = [x] /\ ShV K w H x d /\ ShowW d /\ Q (.str d.shown) H
theorem call_repW {X : Cx} (hf : Free X.A) (hu : X.A.units + 64 < cLine) : CallR X (.builtin "repr") (rRepW X.K X.w) := by
  intro pins s σ H xs us Q I rel h
  obtain ⟨x, d, rfl, hd, ⟨o1, o2, o3⟩, q⟩ := h
  obtain ⟨u, rfl, r1⟩ := rel.one
  have sh := hd.at I r1
  have fin : ∀ {h' : Heap} {t : Tok} {tk : Nat}, (∀ b o, s.heap.get? b = some o -> h'.get? b = some o) -> ∃ v H1, Inv X pins σ H1 { s with heap := h', toks := tk } /\ RelV v (.str d.shown t) /\ Q v H1 := fun k => ⟨.str d.shown, H, I.kept k, ⟨_, rfl⟩, q⟩
  cases sh with
  | non => exact PySem.P.repr_of_none ⟨.str _, H, I.tok _, ⟨_, rfl⟩, q⟩
  | bl b =>
    refine PySem.P.repr_of_bool ⟨.str _, H, I.tok _, ⟨_, rfl⟩, ?_⟩
    cases b <;> exact q
  | int i t => exact PySem.P.repr_of_int (by simpa [PyData.showable] using o1) ⟨.str _, H, I.tok _, ⟨_, rfl⟩, q⟩
  | str y t => exact PySem.P.repr_of_str ⟨.str _, H, I.tok _, ⟨_, rfl⟩, q⟩ (by simpa only [PyData.shown] using o3)
  | lst h1 h2 h3 h4 =>
    obtain ⟨T, idr, S⟩ := (Sh.lst h1 h2 h3 h4).shows (prog := X.prog) (w := X.w) o1 o3
    exact call_repr_slot (by omega) (S.typeIs s fun _ _ z => z) S.slotRepr (S.call X.A.in1 _ s _ hf (by show X.A.units + 1 + _ < cLine; omega) (fun _ _ z => z) fun h' u tk k => ⟨_, _, rfl, fin k⟩)
  | tup h1 h2 h3 h4 =>
    obtain ⟨T, idr, S⟩ := (Sh.tup h1 h2 h3 h4).shows (prog := X.prog) (w := X.w) o1 o3
    exact call_repr_slot (by omega) (S.typeIs s fun _ _ z => z) S.slotRepr (S.call X.A.in1 _ s _ hf (by show X.A.units + 1 + _ < cLine; omega) (fun _ _ z => z) fun h' u tk k => ⟨_, _, rfl, fin k⟩)
  | dic sm h1 h2 h3 h4 h5 =>
    obtain ⟨T, idr, S⟩ := (Sh.dic sm h1 h2 h3 h4 h5).shows (prog := X.prog) (w := X.w) o1 o3
    exact call_repr_slot (by omega) (S.typeIs s fun _ _ z => z) S.slotRepr (S.call X.A.in1 _ s _ hf (by show X.A.units + 1 + _ < cLine; omega) (fun _ _ z => z) fun h' u tk k => ⟨_, _, rfl, fin k⟩)
mutual
def deepR (M : Mem) : Nat -> W -> Option PyData
  | _, .d x => some x
  | n + 1, .obj i => match M[i]? with
    | some (.lst ws) => (deepRs M n ws).map PyData.list
    | some (.dic es _) => some (.dict es)
    | _ => none
  | n + 1, .pack ws => (deepRs M n ws).map PyData.tuple
  | _, _ => none
def deepRs (M : Mem) : Nat -> List W -> Option (List PyData)
  | _, [] => some []
  | n, w :: ws => (deepR M n w).bind fun d => (deepRs M n ws).map fun ds => d :: ds
end
mutual
theorem deepR_rel {C : Ck} {φ : Nat -> Addr} {M : Mem} {H : Hp} (sim : Sim C φ M H) : ∀ (n : Nat) (w : W) (v : V) (d : PyData), Rw C φ M.length H v w -> deepR M n w = some d -> ShV C.K C.w H v d
  | n, .d x, v, d, r, e => by
    cases n <;> (simp only [deepR, Option.some.injEq] at e; subst e; cases r with | d r => exact .dat r)
  | n + 1, .obj i, v, d, r, e => by
    simp only [deepR] at e
    obtain ⟨rfl, _⟩ := r.isO
    split at e
    · rename_i ws hws
      rw [Option.map_eq_some_iff] at e
      obtain ⟨ds, e, rfl⟩ := e
      obtain ⟨vs, hv, rr⟩ := sim.ob _ _ hws
      exact .lst (SqL.of hv) (deepRs_rel sim n ws vs ds rr e)
    · rename_i es st hes
      cases e
      obtain ⟨L, hv, rr⟩ := sim.ob _ _ hes
      exact .dic hv rr
    · cases e
  | n + 1, .pack ws, v, d, r, e => by
    simp only [deepR, Option.map_eq_some_iff] at e
    obtain ⟨ds, e, rfl⟩ := e
    cases r with
    | pack sq r => exact .tup sq (deepRs_rel sim n ws _ ds r e)
  | 0, .obj i, v, d, r, e => by simp [deepR] at e
  | 0, .scr, v, d, r, e => by simp [deepR] at e
  | 0, .pack _, v, d, r, e => by simp [deepR] at e
  | 0, .fn, v, d, r, e => by simp [deepR] at e
  | n + 1, .scr, v, d, r, e => by simp [deepR] at e
  | n + 1, .fn, v, d, r, e => by simp [deepR] at e
theorem deepRs_rel {C : Ck} {φ : Nat -> Addr} {M : Mem} {H : Hp} (sim : Sim C φ M H) : ∀ (n : Nat) (ws : List W) (vs : List V) (ds : List PyData), RwAll C φ M.length H vs ws -> deepRs M n ws = some ds -> ShVs C.K C.w H vs ds
  | n, [], vs, ds, r, e => by
    simp only [deepRs, Option.some.injEq] at e
    subst e
    cases r
    exact .nil
  | n, w :: ws, vs, ds, r, e => by
    simp only [deepRs] at e
    obtain ⟨d, e1, e3⟩ := bsome e
    rw [Option.map_eq_some_iff] at e3
    obtain ⟨ds, e2, rfl⟩ := e3
    cases r with
    | cons r1 r2 => exact .cons (deepR_rel sim n w _ d r1 e1) (deepRs_rel sim n ws _ ds r2 e2)
end
open Classical in
noncomputable def fRepW : Fn := fun as M => match as with
  | [w] => (deepR M 50 w).bind fun d => if ShowW d then some (.d (.str d.shown), M) else none
  | _ => none
theorem vc_repW {C : Ck} : VC C (rRepW C.K C.w) fRepW := by
  intro φ M H xs as w M' Q sim r e q
  unfold fRepW at e
  split at e
  · rename_i w0
    obtain ⟨d, ed, e⟩ := bsome e
    split at e
    · rename_i ok
      cases e
      obtain ⟨x, rfl, r1⟩ := one_arg r
      exact ⟨x, d, rfl, deepR_rel sim 50 w0 x d r1 ed, ok, q _ φ H (.refl sim) (.d (.str _))⟩
    · cases e
  · cases e
end Va
namespace Va
open PySem PySem.Spec PyProof.Rows L2 Sa Gn
section
variable {X : Cx} {C : Ck}
def rEqE (K : PySem.W.Frag) : R2 := fun x y H Q => ∃ a b xs, x = .ref a /\ y = .ref b /\ SqT K H a xs /\ SqT K H b [] /\ Q (.bl xs.isEmpty) H
theorem op_eqE (hu : X.A.units + 64 < cLine) : OpR X (compareOp .Eq) (rEqE X.K) := by
  intro pins s σ H x y v u Q I rx ry ⟨a, b, xs, ex, ey, h1, h2, q⟩
  subst ex ey
  cases rx
  cases ry
  obtain ⟨its, r1, t1, _⟩ := I.tuple h1
  obtain ⟨jts, r2, t2, _⟩ := I.tuple h2
  cases r2
  refine SeqAt.eq_tupleAt (e := fun _ => true) t1 t2 (by omega) (fun j _ z => absurd z (Nat.not_lt_zero _)) ⟨.bl xs.isEmpty, H, I, ?_, q⟩
  show Value.bool _ = Value.bool _
  cases r1 <;> simp
def isE : W -> Option Bool
  | .d (.tuple []) => some true
  | _ => none
def oEqE : O2 := fun a b M => (tupOf a).bind fun ws => (isE b).bind fun _ => some (.d (.bool ws.isEmpty), M)
def oNeE : O2 := fun a b M => (tupOf a).bind fun ws => (isE b).bind fun _ => some (.d (.bool (!ws.isEmpty)), M)
theorem isE_of {φ : Nat -> Addr} {n : Nat} {H : Hp} {v : V} {w : W} {k : Bool} (r : Rw C φ n H v w) (e : isE w = some k) : ∃ b, v = .ref b /\ SqT C.K H b [] := by
  unfold isE at e
  split at e
  · cases r with | d r => cases r with
    | tup sq r => cases r; exact ⟨_, rfl, sq⟩
  · cases e
theorem len_e {φ : Nat -> Addr} {n : Nat} {H : Hp} {vs : List V} {ws : List W} (r : RwAll C φ n H vs ws) : vs.isEmpty = ws.isEmpty := by cases r <;> rfl
theorem vo_eqE : VO2 C (rEqE C.K) oEqE := by
  intro φ M H x y a b w M' Q sim rx ry e q
  obtain ⟨ws, e1, e⟩ := bsome e
  obtain ⟨k, e2, e⟩ := bsome e
  cases e
  obtain ⟨a1, vs, rfl, s1, r1⟩ := rx.un e1
  obtain ⟨b1, rfl, s2⟩ := isE_of ry e2
  exact ⟨a1, b1, vs, rfl, rfl, s1, s2, q _ φ H (.refl sim) (by rw [len_e r1]; exact .d (.bl _))⟩
theorem beq_dec (i j : Int) : (i == j) = decide (i = j) := by rw [Bool.eq_iff_iff, beq_iff_eq, decide_eq_true_iff]
def oNI (g : Int -> Int -> PyData) : O2 := fun a b M => (asN a).bind fun i => (asI b).bind fun j => some (.d (g i j), M)
abbrev oAddN : O2 := oNI fun i j => .int (i + j)
abbrev oSubN : O2 := oNI fun i j => .int (i - j)
abbrev oEqN : O2 := oNI fun i j => .bool (decide (i = j))
def numText : PyData -> Option Str
  | .int i => if i.natAbs.log2 < 1920 then some (toString i) else none
  | .bool b => some (if b then "True" else "False")
  | _ => none
def rStrN : List V -> Hp -> VK -> Prop := fun xs H Q => (∃ i, xs = [.int i] /\ i.natAbs.log2 < 1920 /\ Q (.str (toString i)) H) ∨ ∃ b, xs = [.bl b] /\ Q (.str (if b then "True" else "False")) H
theorem call_strN : CallR X (.type "str") rStrN := by
  intro pins s σ H xs us Q I r h
  rcases h with ⟨i, rfl, hz, q⟩ | ⟨b, rfl, q⟩
  · obtain ⟨u, rfl, t, rfl⟩ := vals1 r
    exact PySem.P.str_of_int hz ⟨.str _, H, I.tok _, ⟨_, rfl⟩, q⟩
  · obtain ⟨u, rfl, r1⟩ := vals1 r
    cases r1
    refine PySem.P.str_of_bool ⟨.str _, H, I.tok _, ⟨_, rfl⟩, ?_⟩
    cases b <;> exact q
def fStrN : Fn := fun as M => match as with
  | [.d x] => (numText x).bind fun t => some (.d (.str t), M)
  | _ => none
theorem vc_strN : VC C rStrN fStrN := by
  intro φ M H xs as w M' Q sim r e q
  unfold fStrN at e
  split at e
  · rename_i x0
    obtain ⟨t, et, e⟩ := bsome e
    cases e
    obtain ⟨x, rfl, r1⟩ := one_arg r
    unfold numText at et
    split at et
    · split at et
      · rename_i i hz
        cases et
        obtain rfl := r1.isI
        exact .inl ⟨_, rfl, hz, q _ φ H (.refl sim) (.d (.str _))⟩
      · cases et
    · cases et
      obtain rfl := r1.isB
      exact .inr ⟨_, rfl, q _ φ H (.refl sim) (.d (.str _))⟩
    · cases et
  · cases e
def oRepT0 : O2 := fun a b M => (tupOf a).bind fun ws => (asI b).bind fun k => if k <= 0 then if ws ≠ [] /\ -1000 <= k then some (mkTup [], M) else none else oRepT a b M
end
end Va
namespace Va
open PySem PySem.Spec PyProof.Rows L2 Sa
def oNotInT : O2 := fun a b M => match a, b with
  | .d (.str x), .d (.tuple ds) => (strsOf ds).map fun xs => (.d (.bool (!decide (x ∈ xs))), M)
  | _, _ => none
theorem vo_notInT {C : Ck} : VO2 C (rIn C.K true) oNotInT := by
  intro φ M H x y a b w M' Q sim rx ry e q
  unfold oNotInT at e
  split at e
  · rename_i z ds
    rw [Option.map_eq_some_iff] at e
    obtain ⟨xs, e, e'⟩ := e
    cases e'
    cases rx with | d rx => cases ry with | d ry =>
    cases rx
    cases ry with
    | tup s r =>
      have := strs_rel r e
      subst this
      refine ⟨_, _, rfl, .inr s, rfl, flat_strs _, ?_⟩
      rw [if_pos rfl, in_strs]
      exact q _ φ H (.refl sim) (.d (.bl _))
  · cases e
end Va
namespace Pg
open PySem PySem.Spec PyProof.Rows L2 Sa Va
noncomputable def g_size_of : EvS :=
    (sSeq (sIf (tVal (eOp oEq (eOp oIx (eVar 0) (eC (.int 0))) (eC (.str "rest")))) (sRet (eOp oSub (eOp oIx (eVar 0) (eC (.int 3))) (eC (.int 1)))) sNil)
    (sRet (eCall fMax2 (aCons (eOp oAdd (eC (.int 1)) (eCall fAbs (aCons (eOp oIx (eVar 0) (eC (.int 2))) aNil))) (aCons (eMaxAbs (eOp oIx (eVar 0) (eC (.int 1)))) aNil)))))
noncomputable def F_size_of : Fn := nf (fnV 2 (g_size_of))
noncomputable def g_says : EvS :=
    (sSeq (sIf (tVal (eOp oEq (eOp oIx (eVar 0) (eC (.int 0))) (eC (.str "rest")))) (sRet (eOp oEq (eVar 1) (eOp oIx (eVar 0) (eC (.int 2))))) sNil)
    (sRet (eOp oGe (eVar 1) (eOp oIx (eVar 0) (eC (.int 2))))))
noncomputable def F_says : Fn := nf (fnV 2 (g_says))
noncomputable def g_is_blank : EvS :=
    (sRet (eAllBlank (eVar 0)))
noncomputable def F_is_blank : Fn := nf (fnV 2 (g_is_blank))
noncomputable def g_is_tuple_of : EvS :=
    (sRet (eAnd (eIsi "tuple" (eVar 0)) (eOp oEq (eCall fLen (aCons (eVar 0) aNil)) (eVar 1))))
noncomputable def F_is_tuple_of : Fn := nf (fnV 2 (g_is_tuple_of))
noncomputable def g_is_headed : EvS :=
    (sRet (eAnd (eDef 2 (F_is_tuple_of) (aCons (eVar 0) (aCons (eVar 2) aNil))) (eAnd (eIsi "str" (eOp oIx (eVar 0) (eC (.int 0)))) (eOp oEq (eOp oIx (eVar 0) (eC (.int 0))) (eVar 1)))))
noncomputable def F_is_headed : Fn := nf (fnV 3 (g_is_headed))
noncomputable def g_is_joined : EvS :=
    (sRet (eOr (eDef 3 (F_is_headed) (aCons (eVar 0) (aCons (eC (.str "not")) (aCons (eC (.int 2)) aNil)))) (eOr (eDef 3 (F_is_headed) (aCons (eVar 0) (aCons (eC (.str "and")) (aCons (eC (.int 3)) aNil)))) (eDef 3 (F_is_headed) (aCons (eVar 0) (aCons (eC (.str "or")) (aCons (eC (.int 3)) aNil)))))))
noncomputable def F_is_joined : Fn := nf (fnV 1 (g_is_joined))
noncomputable def g_all_simples (self : Fn) : EvS :=
    (sSeq (sIf (tNotE (tVal (eDef 1 (F_is_joined) (aCons (eVar 0) aNil)))) (sRet (eLst (aCons (eVar 0) aNil))) sNil)
    (sSeq (sSet 1 (eLst aNil))
    (sSeq (sFor (iSeq (eSlT (some 1) none (eVar 0))) (gN 2) (sExpr (sExt (eVar 1) (eDef 1 self (aCons (eVar 2) aNil)))))
    (sRet (eVar 1)))))
noncomputable def F_all_simples : Nat -> Fn
  | 0 => fun _ _ => none
  | k + 1 => nf (fnV 3 (g_all_simples (F_all_simples k)))
noncomputable def g_simples : EvS :=
    (sRet (eCall fTuple (aCons (eCall fSortSet (aCons (eDef 1 (F_all_simples 9) (aCons (eVar 0) aNil)) aNil)) aNil)))
noncomputable def F_simples : Fn := nf (fnV 1 (g_simples))
end Pg
namespace Lx
open PySem PySem.Spec PyProof.Rows L2 Sa Va
noncomputable def g__law_hand (ns : List Int) : EvS :=
    (sSeq (sSet 2 (eIf (tVal (eOp oLt (eVar 1) (eCall (fLenS ns) (aCons (eVar 0) aNil)))) (eOp (oIxS ns) (eVar 0) (eVar 1)) (eC (.int 0))))
    (sSeq (sSet 3 (eOp oMul (eOp oMod (eCall fAbs (aCons (eVar 2) aNil)) (eOp oMulW (eOp oMulW (eOp oMulW (eOp oPow (eC (.int 10)) (eC (.int 60))) (eOp oPow (eC (.int 10)) (eC (.int 60)))) (eOp oPow (eC (.int 10)) (eC (.int 60)))) (eOp oPow (eC (.int 10)) (eC (.int 60))))) (eCall fInt (aCons (eOp oGe (eCall fAbs (aCons (eVar 2) aNil)) (eOp oPow (eC (.int 10)) (eC (.int 18)))) aNil))))
    (sRet (eLst (aCons (eVar 3) (aCons (eOp oAdd (eOp oAdd (eOp oMod (eVar 2) (eC (.int 2305843009213693951))) (eOp oMul (eC (.int 15485863)) (eVar 1))) (eC (.int 29))) (aCons (eC (.int 0)) aNil)))))))
noncomputable def F__law_hand (ns : List Int) : Fn := nf (fnV 4 (g__law_hand ns))
noncomputable def g__law_take : EvS :=
    (sSeq (sIf (tVal (eOp oGt (eOp oIx (eVar 0) (eC (.int 0))) (eC (.int 0)))) (sSeq (sSet 2 (eOp oMod (eOp oIx (eVar 0) (eC (.int 0))) (eVar 1)))
    (sSeq (sPut (eOp oDiv (eOp oIx (eVar 0) (eC (.int 0))) (eVar 1)) (eVar 0) (eC (.int 0)))
    (sRet (eVar 2)))) sNil)
    (sSeq (sPut (eOp oAdd (eOp oIx (eVar 0) (eC (.int 2))) (eC (.int 1))) (eVar 0) (eC (.int 2)))
    (sSeq (sSet 3 (eLst (aCons (eC (.int 2147483647)) (aCons (eC (.int 2147483629)) (aCons (eC (.int 2147483587)) (aCons (eC (.int 2147483579)) (aCons (eC (.int 2147483563)) (aCons (eC (.int 2147483549)) (aCons (eC (.int 2147483543)) (aCons (eC (.int 2147483497)) aNil))))))))))
    (sSeq (sSet 4 (eOp oIx (eVar 3) (eOp oMod (eOp oIx (eVar 0) (eC (.int 2))) (eC (.int 8)))))
    (sSeq (sSet 5 (eOp oMod (eOp oPow (eOp oAdd (eOp oIx (eVar 0) (eC (.int 1))) (eOp oMul (eC (.int 104729)) (eOp oIx (eVar 0) (eC (.int 2))))) (eC (.int 5))) (eVar 4)))
    (sRet (eOp oMod (eOp oDiv (eOp oMod (eOp oMul (eVar 5) (eOp oAdd (eOp oMod (eVar 5) (eC (.int 1013))) (eOp oIx (eVar 0) (eC (.int 2))))) (eVar 4)) (eC (.int 11))) (eVar 1))))))))
noncomputable def F__law_take : Fn := nf (fnV 6 (g__law_take))
noncomputable def g__law_saying (self : Fn) : EvS :=
    (sSeq (sPar 4 5 (aCons (eDef 2 (F__law_take) (aCons (eVar 0) (aCons (eC (.int 6)) aNil))) (aCons (eDef 2 (F__law_take) (aCons (eVar 0) (aCons (eCall fLen (aCons (eVar 1) aNil)) aNil))) aNil)))
    (sSeq (sPutP (eOp oSub (eIxP (eVar 3) (eC (.str "forms"))) (eC (.int 1))) (eVar 3) (eC (.str "forms")))
    (sSeq (sIf (tOrE (tVal (eOp oGt (eVar 4) (eC (.int 3)))) (tOrE (tVal (eOp oLt (eVar 2) (eC (.int 2)))) (tVal (eOp oLt (eIxP (eVar 3) (eC (.str "forms"))) (eC (.int 1)))))) (sRet (eOp oIx (eVar 1) (eVar 5))) sNil)
    (sSeq (sSet 6 (eDef 4 self (aCons (eVar 0) (aCons (eVar 1) (aCons (eOp oSub (eVar 2) (eC (.int 1))) (aCons (eVar 3) aNil))))))
    (sSeq (sIf (tVal (eOp oEq (eVar 4) (eC (.int 0)))) (sRet (eTup (aCons (eC (.str "not")) (aCons (eVar 6) aNil)))) sNil)
    (sRet (eTup (aCons (eOp oIx (eLst (aCons (eC (.str "and")) (aCons (eC (.str "or")) (aCons (eC (.str "and")) aNil)))) (eOp oSub (eVar 4) (eC (.int 1)))) (aCons (eVar 6) (aCons (eDef 4 self (aCons (eVar 0) (aCons (eVar 1) (aCons (eOp oSub (eVar 2) (eC (.int 1))) (aCons (eVar 3) aNil))))) aNil))))))))))
noncomputable def F__law_saying : Nat -> Fn
  | 0 => fun _ _ => none
  | k + 1 => nf (fnV 7 (g__law_saying (F__law_saying k)))
noncomputable def g__law_of : EvS :=
    (sRet (eOp oIx (eVar 1) (eDef 2 (F__law_take) (aCons (eVar 0) (aCons (eCall fLen (aCons (eVar 1) aNil)) aNil)))))
noncomputable def F__law_of : Fn := nf (fnV 2 (g__law_of))
noncomputable def g__law_simple : EvS :=
    (sSeq (sPar 2 3 (aCons (eDef 2 (F__law_take) (aCons (eVar 0) (aCons (eC (.int 5)) aNil))) (aCons (eDef 2 (F__law_take) (aCons (eVar 0) (aCons (eC (.int 4)) aNil))) aNil)))
    (sSeq (sSet 4 (eCall fTuple (aCons (eLc (iRange1 (aCons (eVar 1) aNil)) (gN 6) tTrue (eDef 2 (F__law_of) (aCons (eVar 0) (aCons (eLst (aCons (eC (.int 0)) (aCons (eC (.int 1)) (aCons (eUn oNeg (eC (.int 1))) (aCons (eC (.int 2)) (aCons (eC (.int 9)) (aCons (eUn oNeg (eC (.int 9))) (aCons (eOp oSub (eDef 2 (F__law_take) (aCons (eVar 0) (aCons (eC (.int 19)) aNil))) (eC (.int 9))) aNil)))))))) aNil))) [6]) aNil)))
    (sSeq (sIf (tVal (eOp oLt (eVar 2) (eC (.int 3)))) (sRet (eTup (aCons (eC (.str "sum")) (aCons (eVar 4) (aCons (eOp oIx (eLst (aCons (eOp oSub (eDef 2 (F__law_take) (aCons (eVar 0) (aCons (eC (.int 9)) aNil))) (eC (.int 4))) (aCons (eOp oSub (eDef 2 (F__law_take) (aCons (eVar 0) (aCons (eC (.int 41)) aNil))) (eC (.int 20))) (aCons (eC (.int 20)) (aCons (eUn oNeg (eC (.int 20))) aNil))))) (eVar 3)) aNil))))) sNil)
    (sSeq (sSet 5 (eOp oAdd (eC (.int 2)) (eDef 2 (F__law_take) (aCons (eVar 0) (aCons (eC (.int 8)) aNil)))))
    (sRet (eTup (aCons (eC (.str "rest")) (aCons (eVar 4) (aCons (eDef 2 (F__law_take) (aCons (eVar 0) (aCons (eVar 5) aNil))) (aCons (eVar 5) aNil))))))))))
noncomputable def F__law_simple : Fn := nf (fnV 7 (g__law_simple))
end Lx
namespace Tr
open PySem PySem.Spec PyProof.Rows L2 Sa Va
end Tr
namespace K07
open PySem PySem.Spec PyProof.Rows L2 Sa Va
noncomputable def g__law_size : EvS :=
    (sSeq (sIf (tVal (eOp oEq (eOp oIx (eVar 0) (eC (.int 0))) (eC (.str "rest")))) (sRet (eOp oSub (eOp oIx (eVar 0) (eC (.int 3))) (eC (.int 1)))) sNil)
    (sRet (eCall fMaxL (aCons (eOp oCat (eLc (iSeq (eOp oIx (eVar 0) (eC (.int 1)))) (gN 1) tTrue (eCall fAbs (aCons (eVar 1) aNil)) [1]) (eLst (aCons (eOp oAdd (eCall fAbs (aCons (eOp oIx (eVar 0) (eC (.int 2))) aNil)) (eC (.int 1))) aNil))) aNil))))
noncomputable def F__law_size : Fn := nf (fnV 2 (g__law_size))
noncomputable def g__law_so : EvS :=
    (sRet (eIf (tVal (eOp oEq (eOp oIx (eVar 0) (eC (.int 0))) (eC (.str "rest")))) (eOp oEq (eVar 1) (eOp oIx (eVar 0) (eC (.int 2)))) (eOp oGe (eVar 1) (eOp oIx (eVar 0) (eC (.int 2))))))
noncomputable def F__law_so : Fn := nf (fnV 2 (g__law_so))
noncomputable def g_is_whole : EvS :=
    (sRet (eAnd (eIsi "int" (eVar 0)) (eNot (eIsi "bool" (eVar 0)))))
noncomputable def F_is_whole : Fn := nf (fnV 1 (g_is_whole))
noncomputable def g_is_whole_within : EvS :=
    (sRet (eAnd (eDef 1 (F_is_whole) (aCons (eVar 0) aNil)) (eCh oLe oLe (eVar 1) (eVar 0) (eVar 2))))
noncomputable def F_is_whole_within : Fn := nf (fnV 3 (g_is_whole_within))
noncomputable def g_is_borne : EvS :=
    (sSeq (sSet 3 (eDef 1 (Pg.F_size_of) (aCons (eVar 0) aNil)))
    (sSeq (sIf (tVal (eOp oEq (eOp oIx (eVar 0) (eC (.int 0))) (eC (.str "rest")))) (sRet (eDef 3 (F_is_whole_within) (aCons (eVar 1) (aCons (eC (.int 0)) (aCons (eVar 3) aNil))))) sNil)
    (sRet (eDef 3 (F_is_whole_within) (aCons (eVar 1) (aCons (eOp oMul (eUn oNeg (eVar 2)) (eVar 3)) (aCons (eOp oMul (eVar 2) (eVar 3)) aNil)))))))
noncomputable def F_is_borne : Fn := nf (fnV 4 (g_is_borne))
noncomputable def g_is_member_hold : EvS :=
    (sSeq (sIf (tNotE (tVal (eDef 2 (Pg.F_is_tuple_of) (aCons (eVar 1) (aCons (eC (.int 3)) aNil))))) (sRet (eC (.bool false))) sNil)
    (sSeq (sAsg (eVar 1) (gT 3 (gsC (gN 2) (gsC (gN 3) (gsC (gN 4) gs0)))))
    (sSeq (sIf (tOrE (tNotE (tVal (eIsi "bool" (eVar 2)))) (tOrE (tNotE (tVal (eIsi "bool" (eVar 4)))) (tNotE (tVal (eDef 3 (F_is_borne) (aCons (eVar 0) (aCons (eVar 3) (aCons (eC (.int 1)) aNil)))))))) (sRet (eC (.bool false))) sNil)
    (sRet (eOr (eNot (eVar 2)) (eOp oEq (eVar 4) (eDef 2 (Pg.F_says) (aCons (eVar 0) (aCons (eVar 3) aNil)))))))))
noncomputable def F_is_member_hold : Fn := nf (fnV 5 (g_is_member_hold))
noncomputable def g_sorts_of : EvS :=
    (sSeq (whN (tVal (eDef 1 (Pg.F_is_joined) (aCons (eVar 0) aNil))) (sSet 0 (eOp oIx (eVar 0) (eC (.int 1)))) 1000000)
    (sRet (eCall fLen (aCons (eOp oIx (eVar 0) (eC (.int 1))) aNil))))
noncomputable def F_sorts_of : Fn := nf (fnV 1 (g_sorts_of))
noncomputable def g_is_member_state : EvS :=
    (sSeq (sIf (tOrE (tNotE (tVal (eDef 3 (Pg.F_is_headed) (aCons (eVar 1) (aCons (eC (.str "member")) (aCons (eC (.int 3)) aNil)))))) (tNotE (tVal (eDef 3 (F_is_whole_within) (aCons (eOp oIx (eVar 1) (eC (.int 1))) (aCons (eC (.int 0)) (aCons (eOp oSub (eDef 1 (F_sorts_of) (aCons (eVar 0) aNil)) (eC (.int 1))) aNil))))))) (sRet (eC (.bool false))) sNil)
    (sSeq (sSet 2 (eDef 1 (Pg.F_simples) (aCons (eVar 0) aNil)))
    (sSeq (sIf (tNotE (tVal (eDef 2 (Pg.F_is_tuple_of) (aCons (eOp oIx (eVar 1) (eC (.int 2))) (aCons (eCall fLen (aCons (eVar 2) aNil)) aNil))))) (sRet (eC (.bool false))) sNil)
    (sRet (eAllX true (iZip2W (aCons (eVar 2) (aCons (eOp oIx (eVar 1) (eC (.int 2))) aNil))) (gT 2 (gsC (gN 3) (gsC (gN 4) gs0))) tTrue (eDef 2 (F_is_member_hold) (aCons (eVar 3) (aCons (eVar 4) aNil))) [3, 4])))))
noncomputable def F_is_member_state : Fn := nf (fnV 5 (g_is_member_state))
noncomputable def g_is_note_hold : EvS :=
    (sRet (eAnd (eDef 2 (Pg.F_is_tuple_of) (aCons (eVar 1) (aCons (eC (.int 2)) aNil))) (eAnd (eIsi "bool" (eOp oIx (eVar 1) (eC (.int 0)))) (eDef 3 (F_is_borne) (aCons (eVar 0) (aCons (eOp oIx (eVar 1) (eC (.int 1))) (aCons (eC (.int 2)) aNil)))))))
noncomputable def F_is_note_hold : Fn := nf (fnV 2 (g_is_note_hold))
noncomputable def g_is_note_state : EvS :=
    (sSeq (sIf (tNotE (tVal (eDef 3 (Pg.F_is_headed) (aCons (eVar 1) (aCons (eC (.str "note")) (aCons (eC (.int 2)) aNil)))))) (sRet (eC (.bool false))) sNil)
    (sSeq (sSet 2 (eDef 1 (Pg.F_simples) (aCons (eVar 0) aNil)))
    (sSeq (sIf (tNotE (tVal (eDef 2 (Pg.F_is_tuple_of) (aCons (eOp oIx (eVar 1) (eC (.int 1))) (aCons (eCall fLen (aCons (eVar 2) aNil)) aNil))))) (sRet (eC (.bool false))) sNil)
    (sRet (eAnd (eAllX true (iZip2W (aCons (eVar 2) (aCons (eOp oIx (eVar 1) (eC (.int 1))) aNil))) (gT 2 (gsC (gN 3) (gsC (gN 4) gs0))) tTrue (eDef 2 (F_is_note_hold) (aCons (eVar 3) (aCons (eVar 4) aNil))) [3, 4]) (eNot (eDef 1 (Pg.F_is_blank) (aCons (eOp oIx (eVar 1) (eC (.int 1))) aNil))))))))
noncomputable def F_is_note_state : Fn := nf (fnV 5 (g_is_note_state))
noncomputable def g_is_state : EvS :=
    (sRet (eOr (eDef 2 (F_is_member_state) (aCons (eVar 0) (aCons (eVar 1) aNil))) (eDef 2 (F_is_note_state) (aCons (eVar 0) (aCons (eVar 1) aNil)))))
noncomputable def F_is_state : Fn := nf (fnV 2 (g_is_state))
end K07
namespace K06
open PySem PySem.Spec PyProof.Rows L2 Sa Va
noncomputable def g__law_hold : EvS :=
    (sSeq (sSet 3 (eOp oMul (eDef 1 (K07.F__law_size) (aCons (eVar 1) aNil)) (eOp oIx (eLst (aCons (eC (.int 1)) (aCons (eC (.int 2)) aNil))) (eCall fInt (aCons (eAnd (eVar 2) (eOp oEq (eOp oIx (eVar 1) (eC (.int 0))) (eC (.str "sum")))) aNil)))))
    (sSeq (sSet 4 (eIf (tVal (eOp oEq (eOp oIx (eVar 1) (eC (.int 0))) (eC (.str "rest")))) (eC (.int 0)) (eOp oSub (eC (.int 0)) (eVar 3))))
    (sSeq (sSet 5 (eLc (iSeq (eTup (aCons (eUn oNeg (eC (.int 1))) (aCons (eC (.int 0)) (aCons (eC (.int 1)) aNil))))) (gN 9) tTrue (eCall fMin2 (aCons (eVar 3) (aCons (eCall fMax2 (aCons (eVar 4) (aCons (eOp oAdd (eOp oIx (eVar 1) (eC (.int 2))) (eVar 9)) aNil))) aNil))) [9]))
    (sSeq (sSet 6 (eDef 2 (Lx.F__law_of) (aCons (eVar 0) (aCons (eOp oCat (eLst (aCons (eVar 4) (aCons (eVar 3) (aCons (eC (.int 0)) (aCons (eOp oAdd (eVar 4) (eDef 2 (Lx.F__law_take) (aCons (eVar 0) (aCons (eOp oAdd (eOp oSub (eVar 3) (eVar 4)) (eC (.int 1))) aNil)))) aNil))))) (eVar 5)) aNil))))
    (sSeq (sPar 7 8 (aCons (eOp oEq (eDef 2 (Lx.F__law_take) (aCons (eVar 0) (aCons (eC (.int 2)) aNil))) (eC (.int 0))) (aCons (eOp oEq (eDef 2 (Lx.F__law_take) (aCons (eVar 0) (aCons (eC (.int 2)) aNil))) (eC (.int 0))) aNil)))
    (sSeq (sIf (tVal (eVar 2)) (sRet (eTup (aCons (eVar 7) (aCons (eVar 6) aNil)))) sNil)
    (sRet (eTup (aCons (eVar 7) (aCons (eVar 6) (aCons (eIf (tVal (eVar 7)) (eDef 2 (K07.F__law_so) (aCons (eVar 1) (aCons (eVar 6) aNil))) (eVar 8)) aNil)))))))))))
noncomputable def F__law_hold : Fn := nf (fnV 10 (g__law_hold))
noncomputable def g__law_state : EvS :=
    (sSeq (sSet 3 (eOp oEq (eDef 2 (Lx.F__law_take) (aCons (eVar 0) (aCons (eC (.int 3)) aNil))) (eC (.int 0))))
    (sSeq (sSet 4 (eLc (iSeq (eVar 1)) (gN 5) tTrue (eDef 3 (F__law_hold) (aCons (eVar 0) (aCons (eVar 5) (aCons (eVar 3) aNil)))) [5]))
    (sSeq (sIf (tNotE (tVal (eVar 3))) (sRet (eTup (aCons (eC (.str "member")) (aCons (eDef 2 (Lx.F__law_take) (aCons (eVar 0) (aCons (eVar 2) aNil))) (aCons (eCall fTuple (aCons (eVar 4) aNil)) aNil))))) sNil)
    (sSeq (sIf (tVal (eOp oEqL (eLc (iSeq (eVar 4)) (gN 6) (tVal (eOp oNe (eVar 6) (eTup (aCons (eC (.bool false)) (aCons (eC (.int 0)) aNil))))) (eVar 6) [6]) (eLst aNil))) (sPut (eTup (aCons (eC (.bool true)) (aCons (eC (.int 0)) aNil))) (eVar 4) (eDef 2 (Lx.F__law_take) (aCons (eVar 0) (aCons (eCall fLen (aCons (eVar 4) aNil)) aNil)))) sNil)
    (sRet (eTup (aCons (eC (.str "note")) (aCons (eCall fTuple (aCons (eVar 4) aNil)) aNil))))))))
noncomputable def F__law_state : Fn := nf (fnV 7 (g__law_state))
noncomputable def g__law_odd : EvS :=
    (sSeq (sSet 2 (eLst (aCons (eC .none) (aCons (eC (.bool true)) (aCons (eC (.bool false)) (aCons (eC (.int 0)) (aCons (eUn oNeg (eC (.int 1))) (aCons (eC (.int 1)) (aCons (eC (.str "")) (aCons (eC (.str "member")) (aCons (eC (.str "note")) (aCons (eC (.str "state")) (aCons (eTup aNil) (aCons (eLst aNil) (aCons eDict0 (aCons (eTup (aCons (eC (.bool false)) (aCons (eC (.int 0)) aNil))) (aCons (eTup (aCons (eC (.bool true)) (aCons (eC (.int 0)) aNil))) aNil)))))))))))))))))
    (sSeq (sIf (tVal (eIsi "bool" (eVar 1))) (sSet 2 (eLst (aCons (eNot (eVar 1)) (aCons (eNot (eVar 1)) (aCons (eNot (eVar 1)) (aCons (eCall fInt (aCons (eVar 1) aNil)) (aCons (eC .none) (aCons (eCall fStrN (aCons (eVar 1) aNil)) aNil)))))))) (sIf (tVal (eIsi "int" (eVar 1))) (sSet 2 (eOp oCat (eVar 2) (eLst (aCons (eOp oAddG (eVar 1) (eC (.int 1))) (aCons (eOp oSub (eVar 1) (eC (.int 1))) (aCons (eOp oAddG (eVar 1) (eC (.int 1))) (aCons (eOp oSub (eVar 1) (eC (.int 1))) (aCons (eOp oSub (eC (.int 0)) (eVar 1)) (aCons (eOp oMul (eVar 1) (eC (.int 2))) (aCons (eCall fStrN (aCons (eVar 1) aNil)) aNil)))))))))) sNil))
    (sSeq (sSet 3 (eDef 2 (Lx.F__law_of) (aCons (eVar 0) (aCons (eVar 2) aNil))))
    (sSeq (sFor (iRange1 (aCons (eDef 2 (Lx.F__law_of) (aCons (eVar 0) (aCons (eLst (aCons (eC (.int 0)) (aCons (eC (.int 0)) (aCons (eC (.int 0)) (aCons (eC (.int 0)) (aCons (eC (.int 0)) (aCons (eC (.int 1)) (aCons (eC (.int 8)) aNil)))))))) aNil))) aNil)) (gN 4) (sSet 3 (eDef 2 (Lx.F__law_of) (aCons (eVar 0) (aCons (eLst (aCons (eTup (aCons (eVar 3) aNil)) (aCons (eLst (aCons (eVar 3) aNil)) (aCons (eTup (aCons (eVar 3) (aCons (eC (.bool false)) aNil))) aNil)))) aNil)))))
    (sRet (eVar 3))))))
noncomputable def F__law_odd : Fn := nf (fnV 5 (g__law_odd))
noncomputable def g__law_bent (self : Fn) : EvS :=
    (sSeq (sSet 3 (eDef 2 (Lx.F__law_take) (aCons (eVar 0) (aCons (eC (.int 12)) aNil))))
    (sSeq (sIf (tOrE (tNotE (tVal (eIsi "tuple" (eVar 1)))) (tVal (eOp oEqE (eVar 1) (eTup aNil)))) (sRet (eDef 2 (F__law_odd) (aCons (eVar 0) (aCons (eVar 1) aNil)))) sNil)
    (sSeq (sPar 4 5 (aCons (eDef 2 (Lx.F__law_take) (aCons (eVar 0) (aCons (eCall fLen (aCons (eVar 1) aNil)) aNil))) (aCons (eDef 2 (Lx.F__law_take) (aCons (eVar 0) (aCons (eCall fLen (aCons (eVar 1) aNil)) aNil))) aNil)))
    (sSeq (sIf (tAndE (tVal (eOp oLt (eVar 3) (eC (.int 9)))) (tVal (eOp oGt (eVar 2) (eC (.int 0))))) (sRet (eOp oAddG (eOp oAddG (eSlTv pN (pE (eVar 4)) (eVar 1)) (eTup (aCons (eDef 3 self (aCons (eVar 0) (aCons (eOp oIx (eVar 1) (eVar 4)) (aCons (eOp oSub (eVar 2) (eC (.int 1))) aNil)))) aNil))) (eSlTv (pE (eOp oAddG (eVar 4) (eC (.int 1)))) pN (eVar 1)))) sNil)
    (sSeq (sSet 6 (eLst (aCons (eOp oAddG (eSlTv pN (pE (eVar 4)) (eVar 1)) (eSlTv (pE (eOp oAddG (eVar 4) (eC (.int 1)))) pN (eVar 1))) (aCons (eOp oAddG (eSlTv pN (pE (eOp oAddG (eVar 4) (eC (.int 1)))) (eVar 1)) (eSlTv (pE (eVar 4)) pN (eVar 1))) (aCons (eRev (eVar 1)) (aCons (eCall fList (aCons (eVar 1) aNil)) (aCons (eOp oIx (eVar 1) (eVar 4)) aNil)))))))
    (sSeq (sSet 6 (eOp oCat (eVar 6) (eLst (aCons (eOp oAddG (eOp oAddG (eSlTv pN (pE (eVar 4)) (eVar 1)) (eTup (aCons (eDef 2 (F__law_odd) (aCons (eVar 0) (aCons (eVar 4) aNil))) aNil))) (eSlTv (pE (eVar 4)) pN (eVar 1))) (aCons (eOp oAddG (eVar 1) (eTup (aCons (eDef 2 (F__law_odd) (aCons (eVar 0) (aCons (eVar 4) aNil))) aNil))) aNil)))))
    (sRet (eDef 2 (Lx.F__law_of) (aCons (eVar 0) (aCons (eOp oCat (eVar 6) (eLst (aCons (eOp oAddG (eOp oAddG (eSlTv pN (pE (eVar 4)) (eVar 1)) (eTup (aCons (eOp oIx (eVar 1) (eVar 5)) aNil))) (eSlTv (pE (eOp oAddG (eVar 4) (eC (.int 1)))) pN (eVar 1))) aNil))) aNil))))))))))
noncomputable def F__law_bent : Nat -> Fn
  | 0 => fun _ _ => none
  | k + 1 => nf (fnV 7 (g__law_bent (F__law_bent k)))
noncomputable def g__law_is_hold : EvS :=
    (sSeq (sIf (tOrE (tNotE (tVal (eIsi "tuple" (eVar 1)))) (tOrE (tVal (eOp oNe (eCall fLen (aCons (eVar 1) aNil)) (eOp oSub (eC (.int 3)) (eCall fInt (aCons (eVar 2) aNil))))) (tNotE (tVal (eIsi "bool" (eOp oIx (eVar 1) (eC (.int 0)))))))) (sRet (eC (.bool false))) sNil)
    (sSeq (sIf (tOrE (tNotE (tVal (eIsi "int" (eOp oIx (eVar 1) (eC (.int 1)))))) (tVal (eIsi "bool" (eOp oIx (eVar 1) (eC (.int 1)))))) (sRet (eC (.bool false))) sNil)
    (sSeq (sSet 3 (eOp oMul (eDef 1 (K07.F__law_size) (aCons (eVar 0) aNil)) (eOp oIx (eLst (aCons (eC (.int 1)) (aCons (eC (.int 2)) aNil))) (eCall fInt (aCons (eAnd (eVar 2) (eOp oEq (eOp oIx (eVar 0) (eC (.int 0))) (eC (.str "sum")))) aNil)))))
    (sSeq (sIf (tNotE (tVal (eCh oLe oLe (eOp oIx (eLst (aCons (eOp oSub (eC (.int 0)) (eVar 3)) (aCons (eC (.int 0)) aNil))) (eCall fInt (aCons (eOp oEq (eOp oIx (eVar 0) (eC (.int 0))) (eC (.str "rest"))) aNil))) (eOp oIx (eVar 1) (eC (.int 1))) (eVar 3)))) (sRet (eC (.bool false))) sNil)
    (sRet (eOr (eVar 2) (eAnd (eIsi "bool" (eOp oIx (eVar 1) (eC (.int 2)))) (eOr (eNot (eOp oIx (eVar 1) (eC (.int 0)))) (eOp oEq (eOp oIx (eVar 1) (eC (.int 2))) (eDef 2 (K07.F__law_so) (aCons (eVar 0) (aCons (eOp oIx (eVar 1) (eC (.int 1))) aNil))))))))))))
noncomputable def F__law_is_hold : Fn := nf (fnV 4 (g__law_is_hold))
noncomputable def g__law_is_state : EvS :=
    (sSeq (sIf (tOrE (tNotE (tVal (eIsi "tuple" (eVar 2)))) (tOrE (tVal (eOp oEqE (eVar 2) (eTup aNil))) (tNotE (tVal (eIsi "str" (eOp oIx (eVar 2) (eC (.int 0)))))))) (sRet (eC (.bool false))) sNil)
    (sSeq (sSet 3 (eOp oEq (eOp oIx (eVar 2) (eC (.int 0))) (eC (.str "note"))))
    (sSeq (sIf (tOrE (tVal (eOp oNotInT (eOp oIx (eVar 2) (eC (.int 0))) (eTup (aCons (eC (.str "member")) (aCons (eC (.str "note")) aNil))))) (tOrE (tVal (eOp oNe (eCall fLen (aCons (eVar 2) aNil)) (eOp oSub (eC (.int 3)) (eCall fInt (aCons (eVar 3) aNil))))) (tNotE (tVal (eIsi "tuple" (eOp oIx (eVar 2) (eUn oNeg (eC (.int 1))))))))) (sRet (eC (.bool false))) sNil)
    (sSeq (sIf (tVal (eOp oNe (eCall fLen (aCons (eOp oIx (eVar 2) (eUn oNeg (eC (.int 1)))) aNil)) (eCall fLen (aCons (eVar 0) aNil)))) (sRet (eC (.bool false))) sNil)
    (sSeq (sIf (tNotE (tVal (eCall fAll (aCons (eLc (iZip2W (aCons (eVar 0) (aCons (eOp oIx (eVar 2) (eUn oNeg (eC (.int 1)))) aNil))) (gT 2 (gsC (gN 4) (gsC (gN 5) gs0))) tTrue (eDef 3 (F__law_is_hold) (aCons (eVar 4) (aCons (eVar 5) (aCons (eVar 3) aNil)))) [4, 5]) aNil)))) (sRet (eC (.bool false))) sNil)
    (sSeq (sIf (tVal (eVar 3)) (sRet (eOp oNeL (eLc (iSeq (eOp oIx (eVar 2) (eC (.int 1)))) (gN 5) (tVal (eOp oNe (eVar 5) (eTup (aCons (eC (.bool false)) (aCons (eC (.int 0)) aNil))))) (eVar 5) [5]) (eLst aNil))) sNil)
    (sRet (eAnd (eIsi "int" (eOp oIx (eVar 2) (eC (.int 1)))) (eAnd (eNot (eIsi "bool" (eOp oIx (eVar 2) (eC (.int 1))))) (eCh oLe oLt (eC (.int 0)) (eOp oIx (eVar 2) (eC (.int 1))) (eVar 1)))))))))))
noncomputable def F__law_is_state : Fn := nf (fnV 6 (g__law_is_state))
noncomputable def g_law (ns : List Int) : EvS :=
    (sSeq (sFor (iRange1 (aCons (eOp oAdd (eC (.int 1)) (eCall fMin2 (aCons (eC (.int 3)) (aCons (eCall (fLenS ns) (aCons (eVar 0) aNil)) aNil)))) aNil)) (gN 1) (sSeq (sSet 2 (eDef 2 (Lx.F__law_hand ns) (aCons (eVar 0) (aCons (eVar 1) aNil))))
    (sSeq (sAsg (eTup (aCons (eOp oAdd (eC (.int 1)) (eDef 2 (Lx.F__law_take) (aCons (eVar 2) (aCons (eC (.int 4)) aNil)))) (aCons (eOp oAdd (eC (.int 1)) (eDef 2 (Lx.F__law_take) (aCons (eVar 2) (aCons (eC (.int 6)) aNil)))) aNil))) (gT 2 (gsC (gN 3) (gsC (gN 4) gs0))))
    (sSeq (sSet 6 (eDef 4 (Lx.F__law_saying 8) (aCons (eVar 2) (aCons (eLc (iRange1 (aCons (eVar 4) aNil)) (gN 5) tTrue (eDef 2 (Lx.F__law_simple) (aCons (eVar 2) (aCons (eVar 3) aNil))) [5]) (aCons (eC (.int 8)) (aCons (ePot [((eC (.str "forms")), (eC (.int 12)))]) aNil))))))
    (sSeq (sSet 7 (eDef 1 (Pg.F_simples) (aCons (eVar 6) aNil)))
    (sSeq (sSet 8 (eLst (aCons (eTup (aCons (eC (.str "note")) (aCons (eOp oRepT (eTup (aCons (eTup (aCons (eC (.bool false)) (aCons (eC (.int 0)) aNil))) aNil)) (eCall fLen (aCons (eVar 7) aNil))) aNil))) (aCons (eTup (aCons (eC (.str "member")) (aCons (eC (.int 0)) (aCons (eTup aNil) aNil)))) (aCons (eTup (aCons (eC (.str "note")) (aCons (eTup aNil) aNil))) (aCons (eC .none) (aCons (eC (.str "")) aNil)))))))
    (sSeq (sFor (iRange1 (aCons (eC (.int 5)) aNil)) (gN 5) (sSeq (sSet 9 (eDef 3 (F__law_state) (aCons (eVar 2) (aCons (eVar 7) (aCons (eVar 3) aNil)))))
    (sSeq (sIf (tVal (eOp oNotB (eDef 2 (K07.F_is_state) (aCons (eVar 6) (aCons (eVar 9) aNil))) (eC (.bool true)))) (sRet (eC (.bool false))) sNil)
    (sSeq (sFor (iRange1 (aCons (eC (.int 4)) aNil)) (gN 10) (sSeq (sSet 11 (eDef 3 (F__law_bent 6) (aCons (eVar 2) (aCons (eVar 9) (aCons (eC (.int 4)) aNil)))))
    (sExpr (sApp (eVar 8) (eIf (tVal (eOp oEq (eDef 2 (Lx.F__law_take) (aCons (eVar 2) (aCons (eC (.int 5)) aNil))) (eC (.int 0)))) (eDef 3 (F__law_bent 6) (aCons (eVar 2) (aCons (eVar 11) (aCons (eC (.int 4)) aNil)))) (eVar 11))))))
    (sExpr (sApp (eVar 8) (eIf (tVal (eOp oEq (eOp oIx (eVar 9) (eC (.int 0))) (eC (.str "member")))) (eTup (aCons (eC (.str "note")) (aCons (eOp oIx (eVar 9) (eUn oNeg (eC (.int 1)))) aNil))) (eTup (aCons (eC (.str "member")) (aCons (eC (.int 0)) (aCons (eOp oIx (eVar 9) (eUn oNeg (eC (.int 1)))) aNil)))))))))))
    (sFor (iSeq (eOp oCat (eVar 8) (eLst (aCons (eDef 3 (F__law_state) (aCons (eVar 2) (aCons (eTup (aCons (eTup (aCons (eC (.str "sum")) (aCons (eOp oRepT (eTup (aCons (eC (.int 1)) aNil)) (eVar 3)) (aCons (eC (.int 4)) aNil)))) aNil)) (aCons (eVar 3) aNil)))) aNil)))) (gN 12) (sSeq (sPar 13 14 (aCons (eCall fRepW (aCons (eVar 12) aNil)) (aCons (eDef 2 (K07.F_is_state) (aCons (eVar 6) (aCons (eVar 12) aNil))) aNil)))
    (sIf (tOrE (tNotE (tVal (eIsi "bool" (eVar 14)))) (tOrE (tVal (eOp oNe (eVar 14) (eDef 3 (F__law_is_state) (aCons (eVar 7) (aCons (eVar 3) (aCons (eVar 12) aNil)))))) (tVal (eOp oNe (eCall fRepW (aCons (eVar 12) aNil)) (eVar 13))))) (sRet (eC (.bool false))) sNil))))))))))
    (sRet (eC (.bool true))))
noncomputable def F_law (ns : List Int) : Fn := nf (fnV 15 (g_law ns))
end K06
namespace Va
open PySem PySem.Spec PyProof.Rows L2 Sa
/-- it tells something of which Q is so -/
def Ok {α : Type} (o : Option α) (Q : α -> Prop) : Prop := ∃ x, o = some x /\ Q x
@[simp] theorem ok_some {α : Type} {x : α} {Q : α -> Prop} : Ok (some x) Q ↔ Q x := ⟨fun ⟨y, e, q⟩ => by cases e; exact q, fun q => ⟨x, rfl, q⟩⟩
@[simp] theorem ok_none {α : Type} {Q : α -> Prop} : Ok (none : Option α) Q ↔ False := ⟨(fun ⟨y, e, q⟩ => by cases e), False.elim⟩
@[simp] theorem ok_bind {α β : Type} {o : Option α} {f : α -> Option β} {Q : β -> Prop} : Ok (o.bind f) Q ↔ Ok o fun x => Ok (f x) Q :=
  ⟨fun ⟨y, e, q⟩ => let ⟨x, e1, e2⟩ := bsome e; ⟨x, e1, y, e2, q⟩, fun ⟨x, e, y, e2, q⟩ => ⟨y, by rw [e]; exact e2, q⟩⟩
@[simp] theorem ok_map {α β : Type} {o : Option α} {f : α -> β} {Q : β -> Prop} : Ok (o.map f) Q ↔ Ok o fun x => Q (f x) :=
  ⟨fun ⟨y, e, q⟩ => let ⟨x, e1, e2⟩ := Option.map_eq_some_iff.mp e; ⟨x, e1, by show Q (f x); rw [e2]; exact q⟩, fun ⟨x, e, q⟩ => ⟨f x, by rw [e]; rfl, q⟩⟩
theorem Ok.mono {α : Type} {o : Option α} {Q Q' : α -> Prop} (h : Ok o Q) (k : ∀ x, Q x -> Q' x) : Ok o Q' := let ⟨x, e, q⟩ := h; ⟨x, e, k x q⟩
theorem Ok.of {α : Type} {o : Option α} {x : α} {Q : α -> Prop} (h : o = some x) (q : Q x) : Ok o Q := ⟨x, h, q⟩
@[simp] theorem ok_ite {α : Type} {c : Prop} [Decidable c] {a b : Option α} {Q : α -> Prop} : Ok (if c then a else b) Q ↔ if c then Ok a Q else Ok b Q := by split <;> rfl
@[simp] theorem norm_data {M : Mem} {x : PyData} : norm M (.d x, M) = (.d x, M) := by
  have := norm_d (M := M) (M1 := M) (J := []) (w := .d x) rfl .refl
  simpa using this
@[simp] theorem norm_data' {M J : Mem} {x : PyData} : norm M (.d x, M ++ J) = (.d x, M) := norm_d rfl .refl
@[simp] theorem get_new0 {M J : Mem} : (M ++ J)[M.length]? = J[0]? := by
  rw [List.getElem?_append_right (Nat.le_refl _), Nat.sub_self]
@[simp] theorem get_newk {M J : Mem} {k : Nat} : (M ++ J)[M.length + k]? = J[k]? := by
  rw [List.getElem?_append_right (Nat.le_add_right _ _), Nat.add_sub_cancel_left]
@[simp] theorem set_new0 {M J : Mem} {x : MO} : (M ++ J).set M.length x = M ++ J.set 0 x := by
  rw [List.set_append_right _ _ (Nat.le_refl _), Nat.sub_self]
@[simp] theorem set_newk {M J : Mem} {k : Nat} {x : MO} : (M ++ J).set (M.length + k) x = M ++ J.set k x := by
  rw [List.set_append_right _ _ (Nat.le_add_right _ _), Nat.add_sub_cancel_left]
theorem get_old {M J : Mem} {i : Nat} {mo : MO} (h : M[i]? = some mo) : (M ++ J)[i]? = some mo := by
  rw [List.getElem?_append_left (List.getElem?_eq_some_iff.mp h).1]; exact h
@[simp] theorem datas_nil : datas [] = some [] := rfl
@[simp] theorem datas_cons {x : PyData} {ws : List W} : datas (.d x :: ws) = (datas ws).map (x :: ·) := rfl
@[simp] theorem datas_map' {ds : List PyData} : datas (ds.map W.d) = some ds := datas_map ds
@[simp] theorem mkTup_nil : mkTup [] = .d (.tuple []) := rfl
theorem mkTup_of {ws : List W} {ds : List PyData} (h : datas ws = some ds) : mkTup ws = .d (.tuple ds) := by unfold mkTup; rw [h]
@[simp] theorem mkTup_map {ds : List PyData} : mkTup (ds.map W.d) = .d (.tuple ds) := mkTup_of (datas_map ds)
@[simp] theorem mkTup1 {x : PyData} : mkTup [.d x] = .d (.tuple [x]) := rfl
@[simp] theorem mkTup2 {x y : PyData} : mkTup [.d x, .d y] = .d (.tuple [x, y]) := rfl
@[simp] theorem mkTup3 {x y z : PyData} : mkTup [.d x, .d y, .d z] = .d (.tuple [x, y, z]) := rfl
@[simp] theorem mkTup4 {x y z u : PyData} : mkTup [.d x, .d y, .d z, .d u] = .d (.tuple [x, y, z, u]) := rfl
@[simp] theorem asI_int {i : Int} : asI (.d (.int i)) = some i := rfl
@[simp] theorem asB_bool {b : Bool} : asB (.d (.bool b)) = some b := rfl
@[simp] theorem atI0 {α : Type} {x : α} {xs : List α} : atI (x :: xs) 0 = some x := by simp [atI, ixN]
theorem atI_nat' {α : Type} {xs : List α} {k : Nat} {x : α} (h : xs[k]? = some x) : atI xs (k : Int) = some x := by
  have hl := (List.getElem?_eq_some_iff.mp h).1
  have e : ixN xs.length (k : Int) = some k := by
    unfold ixN
    rw [if_pos (by omega), if_pos (by omega)]
    simp
  unfold atI
  rw [e]
  exact h
@[simp] theorem atI1 {α : Type} {x y : α} {xs : List α} : atI (x :: y :: xs) 1 = some y := atI_nat' (k := 1) rfl
@[simp] theorem atI2 {α : Type} {x y z : α} {xs : List α} : atI (x :: y :: z :: xs) 2 = some z := atI_nat' (k := 2) rfl
@[simp] theorem atI3 {α : Type} {x y z u : α} {xs : List α} : atI (x :: y :: z :: u :: xs) 3 = some u := atI_nat' (k := 3) rfl
@[simp] theorem small_size {n : Nat} (h : n <= 1000) : n <= sizeLine := Nat.le_trans h (by decide)
theorem sl : sizeLine = 16777216 := rfl
end Va
namespace Va
open PySem PySem.Spec PyProof.Rows L2 Sa
section
variable {ρ : Ev} {M M2 : Mem} {i j l n : Nat} {a b c o e : EvE} {f g : O2} {u : O1} {F : Fn} {as : EvA} {t s : EvT} {st st2 : EvS} {gg : EvG} {gs : List W -> Ev -> Option Ev} {w : W} {ws : List W} {x : PyData} {ns : List Int} {lo hi : Option Int} {fi : EvI} {vs : List Nat} {k : Nat} {T : String}
@[simp] theorem x_var (h : ρ[i]? = some (some w)) : eVar i ρ M = some (w, M) := by unfold eVar; rw [h]
@[simp] theorem x_c : eC x ρ M = some (.d x, M) := rfl
@[simp] theorem x_op : eOp f a b ρ M = (a ρ M).bind fun p => (b ρ p.2).bind fun q => f p.1 q.1 q.2 := rfl
@[simp] theorem x_un : eUn u a ρ M = (a ρ M).bind fun p => u p.1 p.2 := rfl
@[simp] theorem x_anil : aNil ρ M = some ([], M) := rfl
@[simp] theorem x_acons : aCons a as ρ M = (a ρ M).bind fun p => (as ρ p.2).bind fun q => some (p.1 :: q.1, q.2) := rfl
@[simp] theorem x_call : eCall F as ρ M = (as ρ M).bind fun p => F p.1 p.2 := rfl
@[simp] theorem x_def : eDef n F as ρ M = (as ρ M).bind fun p => if p.1.length = n then F p.1 p.2 else none := rfl
@[simp] theorem x_tval : tVal a ρ M = (a ρ M).bind fun p => (asB p.1).map (·, p.2) := rfl
@[simp] theorem x_tnot : tNotE t ρ M = (t ρ M).bind fun p => some (!p.1, p.2) := rfl
@[simp] theorem x_tand : tAndE t s ρ M = (t ρ M).bind fun p => if p.1 = true then s ρ p.2 else some (false, p.2) := rfl
@[simp] theorem x_tor : tOrE t s ρ M = (t ρ M).bind fun p => if p.1 = true then some (true, p.2) else s ρ p.2 := rfl
@[simp] theorem x_ttrue : tTrue ρ M = some (true, M) := rfl
@[simp] theorem x_and : eAnd a b ρ M = (a ρ M).bind fun p => (asB p.1).bind fun c => if c = true then b ρ p.2 else some (.d (.bool false), p.2) := rfl
@[simp] theorem x_or : eOr a b ρ M = (a ρ M).bind fun p => (asB p.1).bind fun c => if c = true then some (.d (.bool true), p.2) else b ρ p.2 := rfl
@[simp] theorem x_not : eNot a ρ M = (a ρ M).bind fun p => (asB p.1).bind fun c => some (.d (.bool (!c)), p.2) := rfl
@[simp] theorem x_ifE : eIf t a b ρ M = (t ρ M).bind fun p => if p.1 = true then a ρ p.2 else b ρ p.2 := rfl
@[simp] theorem x_tup : eTup as ρ M = (as ρ M).bind fun p => if p.1.length <= sizeLine then some (mkTup p.1, p.2) else none := rfl
@[simp] theorem x_lst : eLst as ρ M = (as ρ M).bind fun p => if p.1.length <= sizeLine then some (.obj p.2.length, p.2 ++ [.lst p.1]) else none := rfl
@[simp] theorem x_nil : sNil ρ M = some (.nx ρ M) := rfl
@[simp] theorem x_seq : sSeq st st2 ρ M = (st ρ M).bind fun o => match o with | .nx ρ1 M1 => st2 ρ1 M1 | o => some o := rfl
@[simp] theorem x_if : sIf t st st2 ρ M = (t ρ M).bind fun p => if p.1 = true then st ρ p.2 else st2 ρ p.2 := rfl
@[simp] theorem x_ret : sRet a ρ M = (a ρ M).bind fun p => some (.rt p.1 p.2) := rfl
@[simp] theorem x_set : sSet i a ρ M = (a ρ M).bind fun p => some (.nx (ρ.set i (some p.1)) p.2) := rfl
@[simp] theorem x_asg : sAsg a gg ρ M = (a ρ M).bind fun p => (gg p.1 ρ).bind fun ρ1 => some (.nx ρ1 p.2) := rfl
@[simp] theorem x_par : sPar i j as ρ M = (as ρ M).bind fun p => match p.1 with | [x, y] => some (.nx ((ρ.set i (some x)).set j (some y)) p.2) | _ => none := rfl
@[simp] theorem x_par3 : sPar3 i j l as ρ M = (as ρ M).bind fun p => match p.1 with | [x, y, z] => some (.nx (((ρ.set i (some x)).set j (some y)).set l (some z)) p.2) | _ => none := rfl
@[simp] theorem x_expr : sExpr a ρ M = (a ρ M).bind fun p => some (.nx ρ p.2) := rfl
@[simp] theorem x_put : sPut e o a ρ M = (e ρ M).bind fun p => (o ρ p.2).bind fun q => (a ρ q.2).bind fun r => (asI r.1).bind fun k => (lstAt r.2 q.1).bind fun l => (ixN l.2.length k).bind fun j => some (.nx ρ (r.2.set l.1 (.lst (l.2.set j p.1)))) := rfl
@[simp] theorem x_app : sApp o e ρ M = (o ρ M).bind fun q => (lstAt q.2 q.1).bind fun _ => (e ρ q.2).bind fun p => (lstAt p.2 q.1).bind fun l => if l.2.length < sizeLine then some (.d .none, p.2.set l.1 (.lst (l.2 ++ [p.1]))) else none := rfl
@[simp] theorem x_ext : sExt o e ρ M = (o ρ M).bind fun q => (lstAt q.2 q.1).bind fun _ => (e ρ q.2).bind fun p => (lstAt p.2 q.1).bind fun l => (lstAt p.2 p.1).bind fun k => if l.2.length + k.2.length <= sizeLine then some (.d .none, p.2.set l.1 (.lst (l.2 ++ k.2))) else none := rfl
@[simp] theorem x_gN : gN i w ρ = some (ρ.set i (some w)) := rfl
@[simp] theorem x_gs0 : gs0 [] ρ = some ρ := rfl
@[simp] theorem x_gsC : gsC gg gs (w :: ws) ρ = (gg w ρ).bind fun ρ1 => gs ws ρ1 := rfl
@[simp] theorem x_gT : gT n gs w ρ = (tupOf w).bind fun ws => if ws.length = n then gs ws ρ else none := rfl
@[simp] theorem x_for : sFor fi gg st ρ M = (fi ρ M).bind fun p => forL p.1.2 gg st p.1.1 ρ p.2 := rfl
@[simp] theorem x_lc : eLc fi gg t e vs ρ M = (fi ρ M).bind fun p => (lcL p.1.2 gg t e (wipeW ρ vs) p.2.length p.1.1 (p.2 ++ [.lst []])).bind fun M' => some (.obj p.2.length, M') := rfl
@[simp] theorem x_wipe0 : wipeW ρ [] = ρ := rfl
@[simp] theorem x_wipe : wipeW ρ (i :: vs) = (wipeW ρ vs).set i none := rfl
@[simp] theorem x_ix {k : Int} : oIx w (.d (.int k)) M = (seqOf M w).bind fun ws => (atI ws k).bind fun w => some (w, M) := rfl
@[simp] theorem x_ixS {k : Int} : oIxS ns .scr (.d (.int k)) M = (atI ns k).bind fun w => some (.d (.int w), M) := rfl
@[simp] theorem x_seqT {ds : List PyData} : seqOf M (.d (.tuple ds)) = some (ds.map W.d) := rfl
@[simp] theorem x_seqO (h : M[i]? = some (.lst ws)) : seqOf M (.obj i) = some ws := by simp only [seqOf, h]
@[simp] theorem x_lstAt (h : M[i]? = some (.lst ws)) : lstAt M (.obj i) = some (i, ws) := by simp only [lstAt, h]
@[simp] theorem x_I {g : Int -> Int -> PyData} {p q : Int} : oI g (.d (.int p)) (.d (.int q)) M = some (.d (g p q), M) := rfl
theorem x_Ic {c : Int -> Int -> Prop} {g : Int -> Int -> PyData} {p q : Int} (h : c p q) : oIc c g (.d (.int p)) (.d (.int q)) M = some (.d (g p q), M) := by simp [oIc, h]
@[simp] theorem x_mod {p q : Int} (h : 0 < q) : oMod (.d (.int p)) (.d (.int q)) M = some (.d (.int (p % q)), M) := x_Ic h
theorem x_divW {p q : Int} (h : CDivW p q) : oDiv (.d (.int p)) (.d (.int q)) M = some (.d (.int (p / q)), M) := x_Ic h
@[simp] theorem x_div {p q : Int} (h : 0 < q /\ q < 1073741824) : oDiv (.d (.int p)) (.d (.int q)) M = some (.d (.int (p / q)), M) := x_divW (wide_div (b := 30) h.1 (by omega) (by decide) (by decide))
@[simp] theorem x_mul {p q : Int} (h : CMul p q) : oMul (.d (.int p)) (.d (.int q)) M = some (.d (.int (p * q)), M) := x_Ic h
@[simp] theorem x_U {g : Int -> PyData} {p : Int} : oU g (.d (.int p)) M = some (.d (g p), M) := rfl
@[simp] theorem x_eqI {p q : Int} : oEq (.d (.int p)) (.d (.int q)) M = some (.d (.bool (decide (p = q))), M) := rfl
@[simp] theorem x_eqS {p q : Str} : oEq (.d (.str p)) (.d (.str q)) M = some (.d (.bool (decide (p = q))), M) := rfl
@[simp] theorem x_eqB {p q : Bool} : oEq (.d (.bool p)) (.d (.bool q)) M = some (.d (.bool (decide (p = q))), M) := rfl
@[simp] theorem x_neS {p q : Str} : oNe (.d (.str p)) (.d (.str q)) M = some (.d (.bool (!decide (p = q))), M) := rfl
@[simp] theorem x_neI {p q : Int} : oNe (.d (.int p)) (.d (.int q)) M = some (.d (.bool (!decide (p = q))), M) := rfl
@[simp] theorem x_abs {p : Int} : fAbs [.d (.int p)] M = some (.d (.int (if p < 0 then -p else p)), M) := rfl
@[simp] theorem x_max2 {p q : Int} : fMax2 [.d (.int p), .d (.int q)] M = some (.d (.int (if q > p then q else p)), M) := rfl
@[simp] theorem x_min2 {p q : Int} : fMin2 [.d (.int p), .d (.int q)] M = some (.d (.int (if q < p then q else p)), M) := rfl
@[simp] theorem x_intB {p : Bool} : fInt [.d (.bool p)] M = some (.d (.int (if p then 1 else 0)), M) := rfl
@[simp] theorem x_len : fLen [w] M = (seqOf M w).bind fun ws => some (.d (.int ws.length), M) := rfl
@[simp] theorem x_lenS : fLenS ns [.scr] M = some (.d (.int ns.length), M) := rfl
@[simp] theorem x_tupleL : fTuple [.obj i] M = (lstAt M (.obj i)).bind fun l => some (mkTup l.2, M) := rfl
@[simp] theorem x_isi : eIsi T a ρ M = (a ρ M).bind fun p => (kindW p.2 p.1).bind fun k => some (.d (.bool (isiB T k)), p.2) := rfl
@[simp] theorem x_iseqO : iSeq a ρ M = (a ρ M).bind fun p => match p.1 with | .obj i => (lstAt p.2 (.obj i)).bind fun l => some ((l.2, [(i, .lst l.2)]), p.2) | w => (tupOf w).bind fun ws => some ((ws, []), p.2) := rfl
theorem x_range1 {j : Int} (h : as ρ M = some ([.d (.int j)], M2)) (r : InR j) : iRange1 as ρ M = some (((List.range j.toNat).map fun (k : Nat) => .d (.int (k : Int)), []), M2) := by
  simp [iRange1, h, r]
theorem x_range2 {i j : Int} (h : as ρ M = some ([.d (.int i), .d (.int j)], M2)) (r : InR i) (r2 : InR j) : iRange2 as ρ M = some (((List.range (j - i).toNat).map fun (k : Nat) => .d (.int (i + (k : Int))), []), M2) := by
  simp [iRange2, h, r, r2]
@[simp] theorem ok_range1 {Q : (List W × List (Nat × MO)) × Mem -> Prop} : Ok (iRange1 as ρ M) Q ↔ Ok (as ρ M) fun p => ∃ j : Int, p.1 = [.d (.int j)] /\ InR j /\ Q (((List.range j.toNat).map fun (k : Nat) => .d (.int (k : Int)), []), p.2) := by
  constructor
  · intro ⟨x, e, q⟩
    obtain ⟨p, e1, e⟩ := bsome e
    refine ⟨p, e1, ?_⟩
    split at e
    · rename_i j hj
      split at e
      · rename_i r; cases e; refine ⟨j, hj, r, ?_⟩; simpa using q
      · cases e
    · cases e
  · intro ⟨p, e, j, hj, r, q⟩
    obtain ⟨p1, p2⟩ := p
    simp only at hj q
    subst hj
    exact ⟨_, x_range1 e r, q⟩
@[simp] theorem ok_range2 {Q : (List W × List (Nat × MO)) × Mem -> Prop} : Ok (iRange2 as ρ M) Q ↔ Ok (as ρ M) fun p => ∃ i j : Int, p.1 = [.d (.int i), .d (.int j)] /\ InR i /\ InR j /\ Q (((List.range (j - i).toNat).map fun (k : Nat) => .d (.int (i + (k : Int))), []), p.2) := by
  constructor
  · intro ⟨x, e, q⟩
    obtain ⟨p, e1, e⟩ := bsome e
    refine ⟨p, e1, ?_⟩
    split at e
    · rename_i i j hj
      split at e
      · rename_i r; cases e; exact ⟨i, j, hj, r.1, r.2, q⟩
      · cases e
    · cases e
  · intro ⟨p, e, i, j, hj, r, r2, q⟩
    obtain ⟨p1, p2⟩ := p
    simp only at hj q
    subst hj
    exact ⟨_, x_range2 e r r2, q⟩
@[simp] theorem x_slT : eSlT lo hi a ρ M = (a ρ M).bind fun p => (tupOf p.1).bind fun ws => some (mkTup (cutG ws lo hi), p.2) := rfl
@[simp] theorem x_slS : eSlS ns lo hi a ρ M = (a ρ M).bind fun p => match p.1 with | .scr => some (.obj p.2.length, p.2 ++ [.lst ((cutG ns lo hi).map fun i => .d (.int i))]) | _ => none := rfl
@[simp] theorem x_rev : eRev a ρ M = (a ρ M).bind fun p => (tupOf p.1).bind fun ws => some (mkTup ws.reverse, p.2) := rfl
@[simp] theorem x_tupIx : eTupIx k a ρ M = (a ρ M).bind fun p => (seqOf p.2 p.1).bind fun ws => (itemsAt k ws).bind fun us => if us.length <= sizeLine then some (mkTup us, p.2) else none := rfl
@[simp] theorem x_maxAbs : eMaxAbs a ρ M = (a ρ M).bind fun p => (seqOf p.2 p.1).bind fun ws => (intsOf ws).bind fun is => if is = [] then none else if is.length <= sizeLine then some (.d (.int (maxI (is.map fun n => if n < 0 then -n else n))), p.2) else none := rfl
@[simp] theorem x_allBlank : eAllBlank a ρ M = (a ρ M).bind fun p => (seqOf p.2 p.1).bind fun ws => (blanks ws).bind fun bs => if bs.length <= sizeLine then some (.d (.bool (bs.all id)), p.2) else none := rfl
@[simp] theorem x_zip3 : iZip3W as ρ M = (as ρ M).bind fun p => match p.1 with | [x, y, z] => (srcOf p.2 x).bind fun s1 => (srcOf p.2 y).bind fun s2 => (srcOf p.2 z).bind fun s3 => if s1.1.length = s2.1.length /\ s1.1.length = s3.1.length then some ((zip3W s1.1 s2.1 s3.1, s1.2 ++ s2.2 ++ s3.2), p.2) else none | _ => none := rfl
@[simp] theorem x_srcT {ds : List PyData} : srcOf M (.d (.tuple ds)) = some (ds.map W.d, []) := rfl
@[simp] theorem x_ints0 : intsOf [] = some [] := rfl
@[simp] theorem x_intsC {p : Int} : intsOf (.d (.int p) :: ws) = (intsOf ws).bind fun is => some (p :: is) := rfl
theorem x_intsM : ∀ (is : List Int), intsOf (is.map fun i => .d (.int i)) = some is
  | [] => rfl
  | i :: is => by simp [x_intsM is]
theorem x_intsM' (is : List Int) : intsOf ((is.map PyData.int).map W.d) = some is := by rw [List.map_map]; exact x_intsM is
theorem x_boolsM : ∀ (is : List Bool), boolsOf (is.map fun i => .d (.bool i)) = some is
  | [] => rfl
  | i :: is => by show (boolsOf (is.map fun i => .d (.bool i))).bind _ = _; rw [x_boolsM is]; rfl
end
theorem lc_ok {deps : List (Nat × MO)} {g : EvG} {t : EvT} {e : EvE} {ρ0 : Ev} {n : Nat} (I : Nat -> Mem -> Prop) {items0 : List W} (hd : ∀ k M, k <= items0.length -> I k M -> Deps deps M)
    (turn : ∀ (k : Nat) (w : W) (M : Mem), items0[k]? = some w -> I k M -> Ok (g w ρ0) fun ρ1 => Ok (t ρ1 M) fun p => if p.1 = true then Ok (e ρ1 p.2) fun y => ∃ acc, y.2[n]? = some (.lst acc) /\ acc.length < sizeLine /\ I (k + 1) (y.2.set n (.lst (acc ++ [y.1]))) else I (k + 1) p.2) :
    ∀ (items : List W) (k : Nat) (M : Mem), items0.drop k = items -> k <= items0.length -> I k M -> Ok (lcL deps g t e ρ0 n items M) (I items0.length)
  | [], k, M, hk, hl, h => by
    have : k = items0.length := by
      have := congrArg List.length hk
      simp at this
      omega
    subst this
    simp only [lcL]
    rw [if_pos (hd _ M hl h)]
    exact ok_some.mpr h
  | w :: ws, k, M, hk, hl, h => by
    have hw : items0[k]? = some w := by
      have : (items0.drop k)[0]? = some w := by rw [hk]; rfl
      simpa using this
    have hk' : items0.drop (k + 1) = ws := by rw [<- List.drop_drop, hk]; rfl
    have hl' : k + 1 <= items0.length := (List.getElem?_eq_some_iff.mp hw).1
    obtain ⟨ρ1, e1, p, e2, h2⟩ := turn k w M hw h
    simp only [lcL]
    rw [if_pos (hd _ M hl h), e1]
    simp only [Option.bind_some]
    rw [e2]
    simp only [Option.bind_some]
    cases hp : p.1 with
    | false =>
      rw [hp] at h2
      simp only [Bool.false_eq_true, if_false] at h2 ⊢
      exact lc_ok I hd turn ws (k + 1) _ hk' hl' h2
    | true =>
      rw [hp] at h2
      simp only [if_true] at h2 ⊢
      obtain ⟨y, e3, acc, h3, h4, h5⟩ := h2
      rw [e3]
      simp only [Option.bind_some]
      rw [x_lstAt h3]
      simp only [Option.bind_some]
      rw [if_pos h4]
      exact lc_ok I hd turn ws (k + 1) _ hk' hl' h5
/-- what a loop's body may come to -/
def forQ (I : Ev -> Mem -> Prop) (B : Ev -> Mem -> Prop) (R : W -> Mem -> Prop) : Out -> Prop
  | .nx ρ M => I ρ M
  | .ct ρ M => I ρ M
  | .bk ρ M => B ρ M
  | .rt w M => R w M
def endQ (N : Ev -> Mem -> Prop) (R : W -> Mem -> Prop) : Out -> Prop
  | .nx ρ M => N ρ M
  | .rt w M => R w M
  | _ => False
theorem for_ok {deps : List (Nat × MO)} {g : EvG} {b : EvS} (I : Nat -> Ev -> Mem -> Prop) (N : Ev -> Mem -> Prop) (R : W -> Mem -> Prop) {items0 : List W} (hd : ∀ k ρ M, k <= items0.length -> I k ρ M -> Deps deps M)
    (hN : ∀ ρ M, I items0.length ρ M -> N ρ M)
    (turn : ∀ (k : Nat) (w : W) (ρ : Ev) (M : Mem), items0[k]? = some w -> I k ρ M -> Ok (g w ρ) fun ρ1 => Ok (b ρ1 M) (forQ (I (k + 1)) N R)) :
    ∀ (items : List W) (k : Nat) (ρ : Ev) (M : Mem), items0.drop k = items -> k <= items0.length -> I k ρ M -> Ok (forL deps g b items ρ M) (endQ N R)
  | [], k, ρ, M, hk, hl, h => by
    have : k = items0.length := by
      have := congrArg List.length hk
      simp at this
      omega
    subst this
    simp only [forL]
    rw [if_pos (hd _ ρ M hl h)]
    exact ok_some.mpr (hN ρ M h)
  | w :: ws, k, ρ, M, hk, hl, h => by
    have hw : items0[k]? = some w := by
      have : (items0.drop k)[0]? = some w := by rw [hk]; rfl
      simpa using this
    have hk' : items0.drop (k + 1) = ws := by rw [<- List.drop_drop, hk]; rfl
    have hl' : k + 1 <= items0.length := (List.getElem?_eq_some_iff.mp hw).1
    obtain ⟨ρ1, e1, o, e2, h2⟩ := turn k w ρ M hw h
    simp only [forL]
    rw [if_pos (hd _ ρ M hl h), e1]
    simp only [Option.bind_some]
    rw [e2]
    simp only [Option.bind_some]
    cases o with
    | nx ρ2 M2 => exact for_ok I N R hd hN turn ws (k + 1) _ _ hk' hl' h2
    | ct ρ2 M2 => exact for_ok I N R hd hN turn ws (k + 1) _ _ hk' hl' h2
    | bk ρ2 M2 => exact ok_some.mpr h2
    | rt w2 M2 => exact ok_some.mpr h2
end Va
namespace Pg
open PySem PySem.Spec PyProof.Rows L2 Sa Va
inductive Simple where
  | sum (ws : List Int) (c : Int)
  | rest (ws : List Int) (r m : Int)
  deriving DecidableEq
abbrev wsD (ws : List Int) : PyData := .tuple (ws.map .int)
def sD : Simple -> PyData
  | .sum ws c => .tuple [.str "sum", wsD ws, .int c]
  | .rest ws r m => .tuple [.str "rest", wsD ws, .int r, .int m]
def Simple.ws : Simple -> List Int
  | .sum ws _ => ws
  | .rest ws _ _ => ws
def Simple.isRest : Simple -> Bool
  | .sum _ _ => false
  | .rest _ _ _ => true
abbrev absI (n : Int) : Int := if n < 0 then -n else n
def sizeM : Simple -> Int
  | .sum ws c => if maxI (ws.map absI) > 1 + absI c then maxI (ws.map absI) else 1 + absI c
  | .rest _ _ m => m - 1
def saysM : Simple -> Int -> Bool
  | .sum _ c, n => decide (c <= n)
  | .rest _ r _, n => decide (n = r)
/-- as far as the program asks -/
structure Wf (S : Simple) : Prop where
  some : S.ws ≠ []
  pos : ∀ ws r m, S = .rest ws r m -> 0 < m
  few : S.ws.length <= 1000
theorem nsr : ¬ (Str.ofString "sum" = Str.ofString "rest") := by decide +kernel
section
variable {S : Simple} {ws : List Int} {c r m n : Int} {M : Mem}
theorem F_says_eq : F_says [.d (sD S), .d (.int n)] M = some (.d (.bool (saysM S n)), M) := by
  cases S <;> simp [F_says, nf, fnV, g_says, sD, saysM, nsr]
theorem F_size_of_eq (h : Wf S) : F_size_of [.d (sD S)] M = some (.d (.int (sizeM S)), M) := by
  cases S with
  | sum ws c =>
    have ne : ws ≠ [] := h.some
    have e := x_intsM' ws
    simp only [List.map_map] at e
    have few : ws.length <= sizeLine := small_size h.few
    simp [F_size_of, nf, fnV, g_size_of, sD, sizeM, nsr, e, ne, absI, few]
  | rest ws r m => simp [F_size_of, nf, fnV, g_size_of, sD, sizeM]
end
structure Hold where
  leads : Bool
  number : Int
  word : Bool
def hD (h : Hold) : PyData := .tuple [.bool h.leads, .int h.number, .bool h.word]
def nD (h : Bool × Int) : PyData := .tuple [.bool h.1, .int h.2]
end Pg
namespace Va
open PySem PySem.Spec PyProof.Rows L2 Sa
theorem lc_map {τ : Type} {deps : List (Nat × MO)} {g : EvG} {e : EvE} {ρ0 : Ev} {M : Mem} (ts : List τ) (enc res : τ -> W) (hd : ∀ acc, Deps deps (M ++ [.lst acc])) (small : ts.length <= 1000000)
    (turn : ∀ t ∈ ts, ∃ ρ1, g (enc t) ρ0 = some ρ1 /\ ∀ acc, e ρ1 (M ++ [.lst acc]) = some (res t, M ++ [.lst acc])) : lcL deps g tTrue e ρ0 M.length (ts.map enc) (M ++ [.lst []]) = some (M ++ [.lst (ts.map res)]) := by
  obtain ⟨M', e1, h⟩ := lc_ok (deps := deps) (g := g) (t := tTrue) (e := e) (ρ0 := ρ0) (n := M.length) (items0 := ts.map enc) (fun k M' => M' = M ++ [.lst ((ts.take k).map res)]) (fun k M' _ h => by rw [h]; exact hd _) (fun k w M' hw h => by
    subst h
    rw [List.getElem?_map] at hw
    obtain ⟨t, ht, rfl⟩ := Option.map_eq_some_iff.mp hw
    obtain ⟨ρ1, h1, h2⟩ := turn t (List.mem_of_getElem? ht)
    refine ⟨ρ1, h1, _, rfl, ?_⟩
    simp only [if_true]
    refine ⟨_, h2 _, _, get_new0, ?_, ?_⟩
    · have : (ts.take k).length <= ts.length := by simp; omega
      simp only [List.length_map]
      exact Nat.lt_of_le_of_lt (Nat.le_trans this small) (by decide)
    · rw [set_new0]
      simp only [List.set_cons_zero]
      congr 3
      rw [List.take_succ, ht]
      simp) (ts.map enc) 0 (M ++ [.lst []]) rfl (Nat.zero_le _) (by simp)
  rw [e1, h]
  simp
theorem datas_of {τ : Type} (f : τ -> PyData) (ts : List τ) : datas (ts.map fun t => .d (f t)) = some (ts.map f) := by
  have := datas_map (ts.map f)
  rw [List.map_map] at this
  exact this
theorem mkTup_of' {τ : Type} (f : τ -> PyData) (ts : List τ) : mkTup (ts.map fun t => .d (f t)) = .d (.tuple (ts.map f)) := mkTup_of (datas_of f ts)
end Va
namespace Pg
open PySem PySem.Spec PyProof.Rows L2 Sa Va
section
variable {ns : List (Bool × Int)} {M : Mem}
theorem blank_eqv (b : Bool) (n : Int) : PyData.eqv (.tuple [.bool b, .int n]) (.tuple [.bool false, .int 0]) = (!b && decide (n = 0)) := by
  cases b
  · simp only [PyData.eqv, PyData.eqvAll]
    by_cases h : n = 0 <;> simp [h]
  · simp [PyData.eqv, PyData.eqvAll]
def isNo (p : Bool × Int) : Bool := !p.1 && decide (p.2 = 0)
theorem blanks_map : ∀ (ns : List (Bool × Int)), blanks (ns.map fun p => .d (nD p)) = some (ns.map isNo)
  | [] => rfl
  | (b, n) :: ns => by
    simp only [List.map_cons, nD, blanks]
    have := blanks_map ns
    simp only [nD] at this
    rw [this, blank_eqv]
    rfl
theorem F_is_blank_eq (small : ns.length <= 1000) : F_is_blank [.d (.tuple (ns.map nD))] M = some (.d (.bool (ns.all isNo)), M) := by
  have := blanks_map ns
  simp [F_is_blank, nf, fnV, g_is_blank, Function.comp_def, this, small_size small]
end
end Pg
namespace Pg
open PySem PySem.Spec PyProof.Rows L2 Sa Va
inductive State where
  | mem (sort : Int) (xs : List Hold)
  | note (ns : List (Bool × Int))
def State.many : State -> Nat
  | .mem _ xs => xs.length
  | .note ns => ns.length
section
variable {M : Mem}
inductive Say where
  | one (S : Simple)
  | no (a : Say)
  | an (a b : Say)
  | or (a b : Say)
def yD : Say -> PyData
  | .one S => sD S
  | .no a => .tuple [.str "not", yD a]
  | .an a b => .tuple [.str "and", yD a, yD b]
  | .or a b => .tuple [.str "or", yD a, yD b]
def Say.leaves : Say -> List Simple
  | .one S => [S]
  | .no a => a.leaves
  | .an a b => a.leaves ++ b.leaves
  | .or a b => a.leaves ++ b.leaves
def Say.deep : Say -> Nat
  | .one _ => 1
  | .no a => a.deep + 1
  | .an a b => max a.deep b.deep + 1
  | .or a b => max a.deep b.deep + 1
def Say.joined : Say -> Bool
  | .one _ => false
  | _ => true
theorem F_is_tuple_of_eq {ds : List PyData} {n : Int} : F_is_tuple_of [.d (.tuple ds), .d (.int n)] M = some (.d (.bool (decide ((ds.length : Int) = n))), M) := by
  simp [F_is_tuple_of, nf, fnV, g_is_tuple_of, kindW, isiB]
theorem F_is_headed_eq {z x : Str} {ds : List PyData} {n : Int} : F_is_headed [.d (.tuple (.str z :: ds)), .d (.str x), .d (.int n)] M = some (.d (.bool (decide (((ds.length + 1 : Nat) : Int) = n) && decide (z = x))), M) := by
  have e : ∀ M, F_is_tuple_of [.d (.tuple (.str z :: ds)), .d (.int n)] M = _ := fun M => F_is_tuple_of_eq
  by_cases h : ((ds.length + 1 : Nat) : Int) = n
  · simp only [List.length_cons, h, decide_true] at e
    simp [F_is_headed, nf, fnV, g_is_headed, e, kindW, isiB, h]
  · simp only [List.length_cons, h, decide_false] at e
    simp [F_is_headed, nf, fnV, g_is_headed, e, kindW, isiB, h]
    intro q
    exact absurd (by omega) h
theorem words_unlike : ¬ (Str.ofString "sum" = Str.ofString "not") /\ ¬ (Str.ofString "sum" = Str.ofString "and") /\ ¬ (Str.ofString "sum" = Str.ofString "or") /\ ¬ (Str.ofString "rest" = Str.ofString "not") /\ ¬ (Str.ofString "rest" = Str.ofString "and") /\ ¬ (Str.ofString "rest" = Str.ofString "or") /\ ¬ (Str.ofString "and" = Str.ofString "not") /\ ¬ (Str.ofString "or" = Str.ofString "not") /\ ¬ (Str.ofString "or" = Str.ofString "and") := by decide +kernel
theorem F_is_joined_eq (y : Say) : F_is_joined [.d (yD y)] M = some (.d (.bool y.joined), M) := by
  obtain ⟨u1, u2, u3, u4, u5, u6, u7, u8, u9⟩ := words_unlike
  have e : ∀ {z x : Str} {ds : List PyData} {n : Int} (M : Mem), F_is_headed [.d (.tuple (.str z :: ds)), .d (.str x), .d (.int n)] M = some (.d (.bool (decide (((ds.length + 1 : Nat) : Int) = n) && decide (z = x))), M) := fun M => F_is_headed_eq
  cases y with
  | one S => cases S <;> simp [F_is_joined, nf, fnV, g_is_joined, yD, sD, e, Say.joined, u1, u2, u3, u4, u5, u6]
  | no a => simp [F_is_joined, nf, fnV, g_is_joined, yD, e, Say.joined]
  | an a b => simp [F_is_joined, nf, fnV, g_is_joined, yD, e, Say.joined, u7]
  | or a b => simp [F_is_joined, nf, fnV, g_is_joined, yD, e, Say.joined, u8, u9]
end
end Pg
namespace Pg
open PySem PySem.Spec PyProof.Rows L2 Sa Va
theorem flatInts : ∀ ws : List Int, flats (ws.map PyData.int) = true
  | [] => rfl
  | n :: ws => by
    show (flat (.int n) && flats (ws.map PyData.int)) = true
    rw [flatInts ws]
    rfl
theorem depthInts : ∀ ws : List Int, NestedKey.depthAll (nks (ws.map PyData.int)) = 0
  | [] => rfl
  | n :: ws => by
    show max (NestedKey.depth (.num n)) (NestedKey.depthAll (nks (ws.map PyData.int))) = 0
    rw [depthInts ws]
    rfl
theorem depthDInts : ∀ ws : List Int, PyData.depthAll (ws.map PyData.int) = 0
  | [] => rfl
  | n :: ws => by
    show max (PyData.depth (.int n)) (PyData.depthAll (ws.map PyData.int)) = 0
    rw [depthDInts ws]
    rfl
theorem sD_flat (S : Simple) : flat (sD S) = true := by
  cases S <;> (show (true && (flats _ && _)) = true; rw [flatInts]; rfl)
theorem sD_depth (S : Simple) : (sD S).depth <= 60 := by
  cases S with
  | sum ws c =>
    show max 0 (max (PyData.depthAll (ws.map PyData.int) + 1) (max 0 0)) + 1 <= 60
    rw [depthDInts]
    decide
  | rest ws r m =>
    show max 0 (max (PyData.depthAll (ws.map PyData.int) + 1) (max 0 (max 0 0))) + 1 <= 60
    rw [depthDInts]
    decide
theorem nksInts : ∀ {ws vs : List Int}, nks (ws.map PyData.int) = nks (vs.map PyData.int) -> ws = vs
  | [], [], _ => rfl
  | [], _ :: _, h => by cases h
  | _ :: _, [], h => by cases h
  | w :: ws, v :: vs, h => by
    have h' : NestedKey.num w :: nks (ws.map PyData.int) = NestedKey.num v :: nks (vs.map PyData.int) := h
    injection h' with h1 h2
    injection h1 with h1
    rw [h1, nksInts h2]
theorem nk_inj {S T : Simple} (h : nk (sD S) = nk (sD T)) : S = T := by
  cases S with
  | sum ws c =>
    cases T with
    | sum vs d =>
      have h' : NestedKey.tup [.text "sum", .tup (nks (ws.map PyData.int)), .num c] = .tup [.text "sum", .tup (nks (vs.map PyData.int)), .num d] := h
      injection h' with h'
      injection h' with _ h'
      injection h' with h1 h'
      injection h' with h2 _
      injection h1 with h1
      injection h2 with h2
      rw [nksInts h1, h2]
    | rest vs r m =>
      have h' : NestedKey.tup [.text "sum", .tup (nks (ws.map PyData.int)), .num c] = .tup [.text "rest", .tup (nks (vs.map PyData.int)), .num r, .num m] := h
      injection h' with h'
      injection h' with _ h'
      injection h' with _ h'
      injection h' with _ h'
      cases h'
  | rest ws r m =>
    cases T with
    | sum vs d =>
      have h' : NestedKey.tup [.text "rest", .tup (nks (ws.map PyData.int)), .num r, .num m] = .tup [.text "sum", .tup (nks (vs.map PyData.int)), .num d] := h
      injection h' with h'
      injection h' with _ h'
      injection h' with _ h'
      injection h' with _ h'
      cases h'
    | rest vs r' m' =>
      have h' : NestedKey.tup [.text "rest", .tup (nks (ws.map PyData.int)), .num r, .num m] = .tup [.text "rest", .tup (nks (vs.map PyData.int)), .num r', .num m'] := h
      injection h' with h'
      injection h' with _ h'
      injection h' with h1 h'
      injection h' with h2 h'
      injection h' with h3 _
      injection h1 with h1
      injection h2 with h2
      injection h3 with h3
      rw [nksInts h1, h2, h3]
theorem sD_key8 (S : Simple) : (nk (sD S)).depth <= 8 := by
  cases S with
  | sum ws c =>
    show max 0 (max (NestedKey.depthAll (nks (ws.map PyData.int)) + 1) (max 0 0)) + 1 <= 8
    rw [depthInts]
    decide
  | rest ws r m =>
    show max 0 (max (NestedKey.depthAll (nks (ws.map PyData.int)) + 1) (max 0 (max 0 0))) + 1 <= 8
    rw [depthInts]
    decide
theorem alikeInts2 : ∀ ws vs : List Int, PySem.W.alikeAll (ws.map PyData.int) (vs.map PyData.int) = true
  | [], _ => by simp [PySem.W.alikeAll]
  | _ :: _, [] => by simp [PySem.W.alikeAll]
  | w :: ws, v :: vs => by
    show (PySem.W.alike (.int w) (.int v) && PySem.W.alikeAll (ws.map PyData.int) (vs.map PyData.int)) = true
    rw [alikeInts2 ws vs]
    rfl
theorem sD_alike2 (S T : Simple) : PySem.W.alike (sD S) (sD T) = true := by
  cases S <;> cases T <;> (show (true && (PySem.W.alikeAll _ _ && _)) = true; rw [alikeInts2]; rfl)
def sLe (S T : Simple) : Bool := !PySem.W.dataLt (sD T) (sD S)
theorem toksInts : ∀ {ws vs : List Int} {r t : List (Int ⊕ List Nat)}, PySem.W.keyToksAll (ws.map PyData.int) ++ r = PySem.W.keyToksAll (vs.map PyData.int) ++ t -> ws = vs /\ r = t
  | [], [], r, t, h => by
    have h' : (Sum.inl 0 : Int ⊕ List Nat) :: r = Sum.inl 0 :: t := h
    injection h' with _ h'
    exact ⟨rfl, h'⟩
  | [], v :: vs, r, t, h => by
    have h' : (Sum.inl 0 : Int ⊕ List Nat) :: r = Sum.inl 1 :: ((Sum.inl v :: PySem.W.keyToksAll (vs.map PyData.int)) ++ t) := h
    injection h' with h' _
    injection h' with h'
    cases h'
  | w :: ws, [], r, t, h => by
    have h' : (Sum.inl 1 : Int ⊕ List Nat) :: ((Sum.inl w :: PySem.W.keyToksAll (ws.map PyData.int)) ++ r) = Sum.inl 0 :: t := h
    injection h' with h' _
    injection h' with h'
    cases h'
  | w :: ws, v :: vs, r, t, h => by
    have h' : (Sum.inl 1 : Int ⊕ List Nat) :: Sum.inl w :: (PySem.W.keyToksAll (ws.map PyData.int) ++ r) = Sum.inl 1 :: Sum.inl v :: (PySem.W.keyToksAll (vs.map PyData.int) ++ t) := h
    injection h' with _ h'
    injection h' with h1 h'
    injection h1 with h1
    obtain ⟨e1, e2⟩ := toksInts h'
    exact ⟨by rw [h1, e1], e2⟩
theorem toks_inj {S T : Simple} (h : PySem.W.keyToks (sD S) = PySem.W.keyToks (sD T)) : S = T := by
  have words : (Sum.inr (Str.ofString "sum").cps.toList : Int ⊕ List Nat) ≠ Sum.inr (Str.ofString "rest").cps.toList := by decide +kernel
  have eS : ∀ ws c, PySem.W.keyToks (sD (.sum ws c)) = Sum.inl 1 :: Sum.inr (Str.ofString "sum").cps.toList :: Sum.inl 1 :: (PySem.W.keyToksAll (ws.map PyData.int) ++ [Sum.inl 1, Sum.inl c, Sum.inl 0]) := fun _ _ => rfl
  have eR : ∀ ws r m, PySem.W.keyToks (sD (.rest ws r m)) = Sum.inl 1 :: Sum.inr (Str.ofString "rest").cps.toList :: Sum.inl 1 :: (PySem.W.keyToksAll (ws.map PyData.int) ++ [Sum.inl 1, Sum.inl r, Sum.inl 1, Sum.inl m, Sum.inl 0]) := fun _ _ _ => rfl
  cases S with
  | sum ws c =>
    cases T with
    | sum vs d =>
      rw [eS, eS] at h
      injection h with _ h
      injection h with _ h
      injection h with _ h
      obtain ⟨e1, e2⟩ := toksInts h
      injection e2 with _ e2
      injection e2 with e2 _
      injection e2 with e2
      rw [e1, e2]
    | rest vs r m =>
      rw [eS, eR] at h
      injection h with _ h
      injection h with h _
      exact absurd h words
  | rest ws r m =>
    cases T with
    | sum vs d =>
      rw [eR, eS] at h
      injection h with _ h
      injection h with h _
      exact absurd h.symm words
    | rest vs r' m' =>
      rw [eR, eR] at h
      injection h with _ h
      injection h with _ h
      injection h with _ h
      obtain ⟨e1, e2⟩ := toksInts h
      injection e2 with _ e2
      injection e2 with e3 e2
      injection e2 with _ e2
      injection e2 with e4 _
      injection e3 with e3
      injection e4 with e4
      rw [e1, e3, e4]
theorem sLe_antisymm {S T : Simple} (h1 : sLe S T = true) (h2 : sLe T S = true) : S = T := by
  unfold sLe at h1 h2
  rw [Bool.not_eq_true'] at h1 h2
  exact toks_inj (lex_total _ _ h2 h1)
theorem rising_one : ∀ {N M : List Simple}, N.Pairwise (fun S T => sLe S T = true) -> M.Pairwise (fun S T => sLe S T = true) -> N.Nodup -> M.Nodup -> (∀ S, S ∈ N ↔ S ∈ M) -> N = M
  | [], [], _, _, _, _, _ => rfl
  | [], T :: M, _, _, _, _, e => absurd ((e T).mpr List.mem_cons_self) (by simp)
  | S :: N, [], _, _, _, _, e => absurd ((e S).mp List.mem_cons_self) (by simp)
  | S :: N, T :: M, p1, p2, n1, n2, e => by
    obtain ⟨a1, p1⟩ := List.pairwise_cons.mp p1
    obtain ⟨a2, p2'⟩ := List.pairwise_cons.mp p2
    obtain ⟨b1, n1⟩ := List.nodup_cons.mp n1
    obtain ⟨b2, n2'⟩ := List.nodup_cons.mp n2
    have same : S = T := by
      rcases List.mem_cons.mp ((e S).mp List.mem_cons_self) with z | z
      · exact z
      · rcases List.mem_cons.mp ((e T).mpr List.mem_cons_self) with y | y
        · exact y.symm
        · exact sLe_antisymm (a1 T y) (a2 S z)
    subst same
    have rest : ∀ R, R ∈ N ↔ R ∈ M := fun R => by
      constructor
      · intro h
        rcases List.mem_cons.mp ((e R).mp (List.mem_cons_of_mem _ h)) with z | z
        · rw [z] at h; exact absurd h b1
        · exact z
      · intro h
        rcases List.mem_cons.mp ((e R).mpr (List.mem_cons_of_mem _ h)) with z | z
        · rw [z] at h; exact absurd h b2
        · exact z
    rw [rising_one p1 p2' n1 n2' rest]
/-- the unlike ones, rising -/
def rowOf (ls : List Simple) : List Simple := ls.eraseDups.mergeSort (PySem.W.dataLe false sD)
theorem sLe_total : PySem.W.TotalLe (PySem.W.dataLe false sD) := PySem.W.sortLe_total _ false _
theorem row_sorted (ls : List Simple) : (ls.mergeSort (PySem.W.dataLe false sD)).Pairwise fun S T => sLe S T = true := PySem.W.sort_pairwise sLe_total ls
theorem nodup_erase : ∀ (n : Nat) (ls : List Simple), ls.length <= n -> ls.eraseDups.Nodup
  | 0, ls, h => by
    have : ls = [] := List.length_eq_zero_iff.mp (by omega)
    rw [this]; simp
  | n + 1, [], _ => by simp
  | n + 1, x :: ls, h => by
    rw [List.eraseDups_cons, List.nodup_cons]
    refine ⟨fun z => ?_, nodup_erase n _ ?_⟩
    · have := List.mem_eraseDups.mp z
      simp at this
    · have := List.length_filter_le (fun b => !b == x) ls
      simp at h
      omega
theorem rowOf_nodup (ls : List Simple) : (rowOf ls).Nodup := (List.mergeSort_perm _ _).nodup_iff.mpr (nodup_erase _ ls (Nat.le_refl _))
theorem rowOf_mem (ls : List Simple) (S : Simple) : S ∈ rowOf ls ↔ S ∈ ls := ((List.mergeSort_perm _ _).mem_iff).trans List.mem_eraseDups
def FewS (ls : List Simple) : Prop := ∀ N : List Simple, N.Nodup -> (∀ S ∈ N, S ∈ ls) -> N.length + 1 < 64
theorem pre_list {L ls : List PyData} : ∀ {Ls : List Simple}, (∀ d ∈ L, d ∈ Ls.map sD) -> ∃ L0 : List Simple, L = L0.map sD /\ ∀ S ∈ L0, S ∈ Ls := by
  intro Ls
  induction L with
  | nil => exact fun _ => ⟨[], rfl, fun _ h => by simp at h⟩
  | cons d L ih =>
    intro h
    obtain ⟨L0, e, k⟩ := ih fun x hx => h x (List.mem_cons_of_mem _ hx)
    obtain ⟨S, hS, rfl⟩ := List.mem_map.mp (h d List.mem_cons_self)
    exact ⟨S :: L0, by rw [e]; rfl, fun T hT => by
      rcases List.mem_cons.mp hT with rfl | hT
      · exact hS
      · exact k T hT⟩
theorem nodup_of_map {α β : Type} {f : α -> β} : ∀ {l : List α}, (l.map f).Nodup -> l.Nodup
  | [], _ => List.nodup_nil
  | x :: l, h => by
    rw [List.map_cons, List.nodup_cons] at h
    exact List.nodup_cons.mpr ⟨fun z => h.1 (List.mem_map_of_mem z), nodup_of_map h.2⟩
theorem sortsTo {ls : List Simple} (few : FewS ls) : SortsTo (ls.map sD) ((rowOf ls).map sD) where
  keys := fun d hd => by
    obtain ⟨S, _, rfl⟩ := List.mem_map.mp hd
    exact ⟨sD_flat S, sD_key8 S, by cases S <;> exact ⟨_, _, rfl⟩, sD_depth S⟩
  alike := fun d hd d' hd' => by
    obtain ⟨S, _, rfl⟩ := List.mem_map.mp hd
    obtain ⟨T, _, rfl⟩ := List.mem_map.mp hd'
    exact sD_alike2 S T
  few := fun N nd sub => by
    have key : ∀ N : List NestedKey, (∀ k ∈ N, k ∈ (ls.map sD).map nk) -> ∃ N0 : List Simple, N = N0.map (fun S => nk (sD S)) /\ ∀ S ∈ N0, S ∈ ls := by
      intro N
      induction N with
      | nil => exact fun _ => ⟨[], rfl, fun _ h => by simp at h⟩
      | cons k N ih =>
        intro h
        obtain ⟨N0, e, q⟩ := ih fun x hx => h x (List.mem_cons_of_mem _ hx)
        have hk := h k List.mem_cons_self
        rw [List.map_map] at hk
        obtain ⟨S, hS, rfl⟩ := List.mem_map.mp hk
        exact ⟨S :: N0, by rw [e]; rfl, fun T hT => by
          rcases List.mem_cons.mp hT with rfl | hT
          · exact hS
          · exact q T hT⟩
    obtain ⟨N0, rfl, q⟩ := key N sub
    rw [List.length_map]
    exact few N0 (nodup_of_map nd) q
  ex := ⟨(ls.eraseDups).map sD, fun d hd => by
      obtain ⟨S, hS, rfl⟩ := List.mem_map.mp hd
      exact List.mem_map_of_mem (List.mem_eraseDups.mp hS), fun d hd => by
      obtain ⟨S, hS, rfl⟩ := List.mem_map.mp hd
      exact List.mem_map_of_mem (List.mem_map_of_mem (List.mem_eraseDups.mpr hS)), by
      rw [List.map_map]
      have nd := nodup_erase _ ls (Nat.le_refl _)
      generalize ls.eraseDups = q at nd
      induction q with
      | nil => exact List.nodup_nil
      | cons S q ih =>
        rw [List.nodup_cons] at nd
        rw [List.map_cons, List.nodup_cons]
        refine ⟨fun z => ?_, ih nd.2⟩
        obtain ⟨T, hT, e⟩ := List.mem_map.mp z
        exact nd.1 (by rw [<- nk_inj e]; exact hT)⟩
  one := fun L ⟨s1, s2, s3⟩ => by
    obtain ⟨L0, rfl, q⟩ := pre_list (ls := []) s1
    have mm : (L0.mergeSort (PySem.W.dataLe false sD)).map sD = (L0.map sD).mergeSort (PySem.W.dataLe false id) := List.map_mergeSort fun a _ b _ => rfl
    rw [<- mm]
    congr 1
    refine rising_one (row_sorted L0) (row_sorted _) ((List.mergeSort_perm _ _).nodup_iff.mpr (nodup_of_map (nodup_of_map s3))) (rowOf_nodup ls) fun S => ?_
    rw [(List.mergeSort_perm _ _).mem_iff, rowOf_mem]
    refine ⟨q S, fun h => ?_⟩
    have := s2 (sD S) (List.mem_map_of_mem h)
    rw [List.map_map] at this
    obtain ⟨T, hT, e⟩ := List.mem_map.mp this
    rw [<- nk_inj e]
    exact hT
theorem Say.leaves_pos : ∀ y : Say, 0 < y.leaves.length
  | .one _ => Nat.one_pos
  | .no a => Say.leaves_pos a
  | .an a b => by simp only [Say.leaves, List.length_append]; have := Say.leaves_pos a; omega
  | .or a b => by simp only [Say.leaves, List.length_append]; have := Say.leaves_pos a; omega
section
variable {M : Mem}
theorem norm_new {us : List W} {J : Mem} (d : us.all isD = true) : norm M (.obj M.length, M ++ .lst us :: J) = (.obj M.length, M ++ [.lst us]) := norm_l (j := 0) rfl d .refl
theorem all_isD {τ : Type} (f : τ -> PyData) (ts : List τ) : (ts.map fun t => W.d (f t)).all isD = true := by
  induction ts with
  | nil => rfl
  | cons t ts ih => simp only [List.map_cons, List.all_cons, ih]; rfl
theorem F_all_simples_eq : ∀ (k : Nat) (y : Say) (M : Mem), y.deep <= k -> y.leaves.length <= 1000 -> F_all_simples k [.d (yD y)] M = some (.obj M.length, M ++ [.lst (y.leaves.map fun S => .d (sD S))])
  | 0, y, M, h, _ => by cases y <;> simp [Say.deep] at h
  | k + 1, y, M, h, hs => by
    have j : ∀ M, F_is_joined [.d (yD y)] M = _ := fun M => F_is_joined_eq y
    have isd := all_isD sD
    cases y with
    | one S =>
      have n := norm_new (M := M) (us := [.d (yD (.one S))]) (J := []) rfl
      simp [F_all_simples, nf, fnV, g_all_simples, j, Say.joined, small_size, n]
      simp [yD, Say.leaves]
    | no a =>
      have e := fun M => F_all_simples_eq k a M (by simp [Say.deep] at h; omega) hs
      have hs' : a.leaves.length <= sizeLine := small_size hs
      have n := fun J => norm_new (M := M) (us := a.leaves.map fun S => .d (sD S)) (J := J) (isd _)
      simp only [yD] at j
      simp [F_all_simples, nf, fnV, g_all_simples, j, Say.joined, small_size, yD, forL, cutG, HT.sIx, e, hs', n, Say.leaves]
    | an a b =>
      have hl : a.leaves.length + b.leaves.length <= 1000 := by simpa [Say.leaves] using hs
      have ea := fun M => F_all_simples_eq k a M (by simp [Say.deep] at h; omega) (by omega)
      have eb := fun M => F_all_simples_eq k b M (by simp [Say.deep] at h; omega) (by omega)
      have hs1 : a.leaves.length <= sizeLine := small_size (by omega)
      have hs2 : a.leaves.length + b.leaves.length <= sizeLine := small_size hl
      have n := fun J => norm_new (M := M) (us := (a.leaves.map fun S => .d (sD S)) ++ (b.leaves.map fun S => .d (sD S))) (J := J) (by rw [List.all_append, isd, isd]; rfl)
      simp only [yD] at j
      simp [F_all_simples, nf, fnV, g_all_simples, j, Say.joined, small_size, yD, forL, cutG, HT.sIx, ea, eb, hs1, hs2, n, Say.leaves]
    | or a b =>
      have hl : a.leaves.length + b.leaves.length <= 1000 := by simpa [Say.leaves] using hs
      have ea := fun M => F_all_simples_eq k a M (by simp [Say.deep] at h; omega) (by omega)
      have eb := fun M => F_all_simples_eq k b M (by simp [Say.deep] at h; omega) (by omega)
      have hs1 : a.leaves.length <= sizeLine := small_size (by omega)
      have hs2 : a.leaves.length + b.leaves.length <= sizeLine := small_size hl
      have n := fun J => norm_new (M := M) (us := (a.leaves.map fun S => .d (sD S)) ++ (b.leaves.map fun S => .d (sD S))) (J := J) (by rw [List.all_append, isd, isd]; rfl)
      simp only [yD] at j
      simp [F_all_simples, nf, fnV, g_all_simples, j, Say.joined, small_size, yD, forL, cutG, HT.sIx, ea, eb, hs1, hs2, n, Say.leaves]
theorem F_simples_eq (y : Say) (hd : y.deep <= 9) (hs : y.leaves.length <= 1000) (few : FewS y.leaves) : F_simples [.d (yD y)] M = some (.d (.tuple ((rowOf y.leaves).map sD)), M) := by
  have e := fun M => F_all_simples_eq 9 y M hd hs
  have s : fSortSet [.obj M.length] (M ++ [.lst (y.leaves.map fun S => .d (sD S))]) = _ := fSortSet_eq (i := M.length) (ds := y.leaves.map sD) (by rw [List.map_map]; exact x_lstAt (by simp)) (sortsTo few)
  simp only [List.length_append, List.length_singleton] at s
  have mk : mkTup ((rowOf y.leaves).map (W.d ∘ sD)) = _ := mkTup_of' sD _
  simp [F_simples, nf, fnV, g_simples, e, s, mk]
end
end Pg
namespace Lw
open PySem PySem.Spec PyProof.Rows L2 Sa Va
noncomputable def g__law_hand (ns : List Int) : EvS :=
    (sSeq (sSet 2 (eIf (tVal (eOp oLt (eVar 1) (eCall (fLenS ns) (aCons (eVar 0) aNil)))) (eOp (oIxS ns) (eVar 0) (eVar 1)) (eC (.int 0))))
    (sSeq (sSet 3 (eOp oAdd (eC (.int 700001)) (eOp oMul (eC (.int 104729)) (eVar 1))))
    (sSeq (sFor (iSeq (eSlS ns none (some 60) (eVar 0))) (gN 4) (sSet 3 (eOp oMod (eOp oAdd (eOp oAdd (eOp oMul (eVar 3) (eC (.int 69621))) (eOp oMul (eC (.int 2)) (eCall fAbs (aCons (eVar 4) aNil)))) (eCall fInt (aCons (eOp oLt (eVar 4) (eC (.int 0))) aNil))) (eC (.int 2305843009213693951)))))
    (sRet (eLst (aCons (eIf (tVal (eOp oGe (eCall fAbs (aCons (eVar 2) aNil)) (eOp oPow (eC (.int 10)) (eC (.int 18))))) (eCall fAbs (aCons (eVar 2) aNil)) (eC (.int 0))) (aCons (eVar 3) (aCons (eC (.int 0)) aNil))))))))
noncomputable def F__law_hand (ns : List Int) : Fn := nf (fnV 5 (g__law_hand ns))
noncomputable def g__law_take : EvS :=
    (sSeq (sIf (tVal (eOp oGt (eOp oIx (eVar 0) (eC (.int 0))) (eC (.int 0)))) (sSeq (sSet 2 (eOp oMod (eOp oIx (eVar 0) (eC (.int 0))) (eVar 1)))
    (sSeq (sPut (eOp oDiv (eOp oIx (eVar 0) (eC (.int 0))) (eVar 1)) (eVar 0) (eC (.int 0)))
    (sRet (eVar 2)))) sNil)
    (sSeq (sPut (eOp oAdd (eOp oIx (eVar 0) (eC (.int 2))) (eC (.int 1))) (eVar 0) (eC (.int 2)))
    (sSeq (sSet 3 (eOp oIx (eLst (aCons (eC (.int 2305843009213693921)) (aCons (eC (.int 999999999989)) (aCons (eC (.int 2305843009213693907)) (aCons (eC (.int 67280421310721)) aNil))))) (eOp oMod (eOp oIx (eVar 0) (eC (.int 2))) (eC (.int 4)))))
    (sSeq (sSet 4 (eOp oAdd (eOp oIx (eVar 0) (eC (.int 1))) (eOp oMul (eOp oMul (eC (.int 15485863)) (eOp oIx (eVar 0) (eC (.int 2)))) (eOp oIx (eVar 0) (eC (.int 2))))))
    (sSeq (sSet 4 (eOp oMod (eOp oAdd (eVar 4) (eOp oMul (eC (.int 32452843)) (eOp oIx (eVar 0) (eC (.int 2))))) (eVar 3)))
    (sSeq (sSet 4 (eOp oMod (eOp oMul (eVar 4) (eOp oAdd (eOp oMod (eVar 4) (eC (.int 1000003))) (eOp oMul (eC (.int 7919)) (eOp oIx (eVar 0) (eC (.int 2)))))) (eVar 3)))
    (sRet (eOp oMod (eOp oAdd (eOp oDiv (eVar 4) (eC (.int 4099))) (eOp oDiv (eVar 4) (eC (.int 1000033)))) (eVar 1)))))))))
noncomputable def F__law_take : Fn := nf (fnV 5 (g__law_take))
noncomputable def g__law_of : EvS :=
    (sRet (eOp oIx (eVar 1) (eDef 2 (F__law_take) (aCons (eVar 0) (aCons (eCall fLen (aCons (eVar 1) aNil)) aNil)))))
noncomputable def F__law_of : Fn := nf (fnV 2 (g__law_of))
noncomputable def g__law_worth : EvS :=
    (sSeq (sSet 1 (eOp oSub (eDef 2 (F__law_take) (aCons (eVar 0) (aCons (eC (.int 19)) aNil))) (eC (.int 9))))
    (sRet (eDef 2 (F__law_of) (aCons (eVar 0) (aCons (eLst (aCons (eC (.int 0)) (aCons (eC (.int 1)) (aCons (eUn oNeg (eC (.int 1))) (aCons (eC (.int 2)) (aCons (eUn oNeg (eC (.int 3))) (aCons (eC (.int 9)) (aCons (eUn oNeg (eC (.int 9))) (aCons (eVar 1) aNil))))))))) aNil)))))
noncomputable def F__law_worth : Fn := nf (fnV 2 (g__law_worth))
noncomputable def g__law_simple : EvS :=
    (sSeq (sSet 2 (eCall fTuple (aCons (eLc (iRange1 (aCons (eVar 1) aNil)) (gN 5) tTrue (eDef 1 (F__law_worth) (aCons (eVar 0) aNil)) [5]) aNil)))
    (sSeq (sIf (tVal (eOp oEq (eDef 2 (F__law_take) (aCons (eVar 0) (aCons (eC (.int 3)) aNil))) (eC (.int 0)))) (sSeq (sSet 3 (eOp oAdd (eC (.int 2)) (eDef 2 (F__law_take) (aCons (eVar 0) (aCons (eC (.int 8)) aNil)))))
    (sRet (eTup (aCons (eC (.str "rest")) (aCons (eVar 2) (aCons (eDef 2 (F__law_take) (aCons (eVar 0) (aCons (eVar 3) aNil))) (aCons (eVar 3) aNil))))))) sNil)
    (sSeq (sSet 4 (eOp oSub (eDef 2 (F__law_take) (aCons (eVar 0) (aCons (eC (.int 41)) aNil))) (eC (.int 20))))
    (sRet (eTup (aCons (eC (.str "sum")) (aCons (eVar 2) (aCons (eDef 2 (F__law_of) (aCons (eVar 0) (aCons (eLst (aCons (eC (.int 0)) (aCons (eC (.int 1)) (aCons (eUn oNeg (eC (.int 1))) (aCons (eC (.int 2)) (aCons (eC (.int 5)) (aCons (eUn oNeg (eC (.int 7))) (aCons (eC (.int 20)) (aCons (eUn oNeg (eC (.int 20))) (aCons (eVar 4) aNil)))))))))) aNil))) aNil))))))))
noncomputable def F__law_simple : Fn := nf (fnV 6 (g__law_simple))
noncomputable def g__law_size : EvS :=
    (sSeq (sIf (tVal (eOp oEq (eOp oIx (eVar 0) (eC (.int 0))) (eC (.str "rest")))) (sRet (eOp oSub (eOp oIx (eVar 0) (eC (.int 3))) (eC (.int 1)))) sNil)
    (sSeq (sSet 1 (eLc (iSeq (eOp oIx (eVar 0) (eC (.int 1)))) (gN 2) tTrue (eCall fAbs (aCons (eVar 2) aNil)) [2]))
    (sRet (eCall fMaxL (aCons (eOp oCat (eVar 1) (eLst (aCons (eOp oAdd (eCall fAbs (aCons (eOp oIx (eVar 0) (eC (.int 2))) aNil)) (eC (.int 1))) aNil))) aNil)))))
noncomputable def F__law_size : Fn := nf (fnV 3 (g__law_size))
end Lw
namespace Lw
open PySem PySem.Spec PyProof.Rows L2 Sa Va Pg
def HandAt (M : Mem) (h : Nat) (n : Int) : Prop := ∃ a b c : Int, M[h]? = some (.lst [.d (.int a), .d (.int b), .d (.int c)]) /\ 0 <= a /\ 0 <= b /\ b < 2 ^ 61 /\ 0 <= c /\ c <= n
/-- all but the thing at h is as it was -/
def Upd (h : Nat) (M M' : Mem) : Prop := M'.length = M.length /\ ∀ i, i ≠ h -> M'[i]? = M[i]?
theorem Upd.refl {h : Nat} {M : Mem} : Upd h M M := ⟨rfl, fun _ _ => rfl⟩
theorem Upd.trans {h : Nat} {M M1 M2 : Mem} (a : Upd h M M1) (b : Upd h M1 M2) : Upd h M M2 := ⟨b.1.trans a.1, fun i hi => (b.2 i hi).trans (a.2 i hi)⟩
theorem Upd.set {h : Nat} {M : Mem} {x : MO} : Upd h M (M.set h x) := ⟨by simp, fun i hi => List.getElem?_set_ne (Ne.symm hi)⟩
theorem HandAt.mono {M : Mem} {h : Nat} {n m : Int} (x : HandAt M h n) (le : n <= m) : HandAt M h m := let ⟨a, b, c, e, h1, h2, h3, h4, h5⟩ := x; ⟨a, b, c, e, h1, h2, h3, h4, by omega⟩
theorem HandAt.lt {M : Mem} {h : Nat} {n : Int} (x : HandAt M h n) : h < M.length := let ⟨_, _, _, e, _⟩ := x; (List.getElem?_eq_some_iff.mp e).1
@[simp] theorem ix0 {n : Nat} : ixN (n + 1) 0 = some 0 := by unfold ixN; rw [if_pos (by omega), if_pos (by omega)]; rfl
@[simp] theorem ix2 {n : Nat} : ixN (n + 3) 2 = some 2 := by unfold ixN; rw [if_pos (by omega), if_pos (by omega)]; rfl
theorem cm_left {p q : Int} (h : -(2 ^ 64) < p /\ p < 2 ^ 64) : CMul p q := .inl h
theorem cm_right {p q : Int} (h : -(2 ^ 64) < q /\ q < 2 ^ 64) : CMul p q := .inr h
theorem norm_upd {M : Mem} {x : PyData} {h : Nat} {ws : List W} {J : Mem} (d : ws.all isD = true) : norm M (.d x, M.set h (.lst ws) ++ J) = (.d x, M.set h (.lst ws)) := norm_d rfl (Cut.refl.set h d)
theorem HandAt.cut {M M1 : Mem} {h : Nat} {n : Int} (hd : HandAt M1 h n) (up : Upd h M M1) : Cut M M1 := by
  refine ⟨up.1, fun k mo hk => ?_⟩
  by_cases z : k = h
  · subst z
    obtain ⟨a, b, c, e, _⟩ := hd
    rw [e] at hk
    cases hk
    exact .inr rfl
  · rw [up.2 k z] at hk
    exact .inl hk
/-- a def that draws and tells data -/
theorem HandAt.norm {M M1 J : Mem} {h : Nat} {n : Int} {w : W} (hd : HandAt M1 h n) (up : Upd h M M1) (d : isD w = true) : norm M (w, M1 ++ J) = (w, M1) := norm_d d (hd.cut up)
end Lw
namespace Lw
open PySem PySem.Spec PyProof.Rows L2 Sa Va Pg
theorem Upd.split {h : Nat} {M J M' : Mem} (hl : h < M.length) (up : Upd h (M ++ J) M') : ∃ M1, M' = M1 ++ J /\ Upd h M M1 := by
  have l1 : M'.length = M.length + J.length := by rw [up.1]; simp
  have split : M' = M'.take M.length ++ J := by
    refine List.ext_getElem? fun i => ?_
    by_cases hi : i < M.length
    · rw [List.getElem?_append_left (by simp [l1]; omega), List.getElem?_take_of_lt hi]
    · rw [up.2 i (by omega), List.getElem?_append_right (by omega), List.getElem?_append_right (by simp [l1]; omega), List.length_take]
      congr 1
      omega
  refine ⟨M'.take M.length, split, by simp [l1], fun i hi => ?_⟩
  by_cases h2 : i < M.length
  · rw [List.getElem?_take_of_lt h2, up.2 i hi, List.getElem?_append_left h2]
  · rw [List.getElem?_eq_none (by simp [l1]; omega), List.getElem?_eq_none (by omega)]
/-- a def that draws: at most so many times, and tells what P is so of -/
def Draws (F : Fn) (as : Nat -> List W) (cost : Int) (P : W -> Prop) : Prop := ∀ (M : Mem) (h : Nat) (n : Int) (Q : W × Mem -> Prop), HandAt M h n -> n + cost < 2 ^ 60 ->
  (∀ w M', P w -> HandAt M' h (n + cost) -> Upd h M M' -> Q (w, M')) -> Ok (F (as h) M) Q
structure GoodS (S : Simple) (k : Nat) : Prop where
  many : S.ws.length = k
  worth : ∀ w ∈ S.ws, -9 <= w /\ w <= 9
  sum : ∀ ws c, S = .sum ws c -> -20 <= c /\ c <= 20
  rest : ∀ ws r m, S = .rest ws r m -> 2 <= m /\ m <= 9 /\ 0 <= r /\ r < m
  few : k <= 6
theorem GoodS.wf {S : Simple} {k : Nat} (h : GoodS S k) (hk : 0 < k) : Wf S := ⟨fun z => by
  have := h.many
  rw [z] at this
  simp at this
  omega, fun ws r m e => by have := h.rest ws r m e; omega, by rw [h.many]; have := h.few; omega⟩
end Lw
namespace Lw
open PySem PySem.Spec PyProof.Rows L2 Sa Va Pg
theorem maxI_app {xs : List Int} {y : Int} (ne : xs ≠ []) : maxI (xs ++ [y]) = if maxI xs > y then maxI xs else y := by
  obtain ⟨h1, h2⟩ := maxI_top xs ne
  split
  · rename_i z
    refine maxI_one (List.mem_append_left _ h1) fun q hq => ?_
    rcases List.mem_append.mp hq with hq | hq
    · exact h2 q hq
    · rw [List.mem_singleton.mp hq]; omega
  · rename_i z
    refine maxI_one (List.mem_append_right _ (List.mem_singleton.mpr rfl)) fun q hq => ?_
    rcases List.mem_append.mp hq with hq | hq
    · have := h2 q hq; omega
    · rw [List.mem_singleton.mp hq]; exact Int.le_refl _
section
variable {S : Simple}
theorem absI_nn (c : Int) : 0 <= absI c := by unfold absI; split <;> omega
theorem size_pos (ge : ∀ ws r m, S = .rest ws r m -> 2 <= m) : 1 <= sizeM S := by
  cases S with
  | sum ws c =>
    have := absI_nn c
    show 1 <= if maxI (ws.map absI) > 1 + absI c then maxI (ws.map absI) else 1 + absI c
    split <;> omega
  | rest ws r m =>
    have := ge ws r m rfl
    show 1 <= m - 1
    omega
end
end Lw
namespace Lw
open PySem PySem.Spec PyProof.Rows L2 Sa Va Pg
end Lw
namespace Lw
open PySem PySem.Spec PyProof.Rows L2 Sa Va Pg
@[simp] theorem ok_dup {α : Type} {o : Option α} {Q : α -> Prop} : Ok o (fun _ => Ok o Q) ↔ Ok o Q := ⟨fun ⟨_, _, h⟩ => h, fun h => let ⟨x, e, _⟩ := h; ⟨x, e, h⟩⟩
theorem abs_le {w : Int} (h0 : -9 <= w) (h1 : w <= 9) : absI w <= 9 := by unfold absI; split <;> omega
theorem size_le {S : Simple} {k : Nat} (h : GoodS S k) (hk : 0 < k) : 1 <= sizeM S /\ sizeM S <= 21 := by
  refine ⟨size_pos fun ws r m e => by have := h.rest ws r m e; omega, ?_⟩
  cases S with
  | sum ws c =>
    have hc := h.sum ws c rfl
    have : absI c <= 20 := by unfold absI; split <;> omega
    have ne : ws.map absI ≠ [] := by
      intro z
      have := h.many
      have z2 : ws = [] := by simpa using z
      rw [show (Simple.sum ws c).ws = ws from rfl, z2] at this
      simp at this
      omega
    have top := (maxI_top (ws.map absI) ne).1
    obtain ⟨w, hw, e⟩ := List.mem_map.mp top
    have hb := h.worth w hw
    have := abs_le hb.1 hb.2
    show (if maxI (ws.map absI) > 1 + absI c then maxI (ws.map absI) else 1 + absI c) <= 21
    split <;> omega
  | rest ws r m =>
    have := h.rest ws r m rfl
    show m - 1 <= 21
    omega
/-- a member's hold as it is drawn -/
def DrawnH (S : Simple) (x : Hold) : Prop := (if S.isRest = true then 0 else -sizeM S) <= x.number /\ x.number <= sizeM S
end Lw
namespace Lw
open PySem PySem.Spec PyProof.Rows L2 Sa Va Pg
def DrawnN (S : Simple) (y : Bool × Int) : Prop := (if S.isRest = true then 0 else -2 * sizeM S) <= y.2 /\ y.2 <= (if S.isRest = true then sizeM S else 2 * sizeM S)
end Lw
namespace Lw
open PySem PySem.Spec PyProof.Rows L2 Sa Va Pg
theorem x_pow {M : Mem} {p q : Int} (h : CPow p q) : oPow (.d (.int p)) (.d (.int q)) M = some (.d (.int (p ^ q.toNat)), M) := x_Ic h
theorem pow18 {M : Mem} : oPow (.d (.int 10)) (.d (.int 18)) M = some (.d (.int 1000000000000000000), M) := x_pow (p := 10) (q := 18) ⟨by decide, by decide, by decide⟩
theorem cell_ok {ns : List Int} {k : Int} (k0 : 0 <= k) (h : k < ns.length) : ∃ v, atI ns k = some v := by
  obtain ⟨j, rfl⟩ : ∃ j : Nat, k = j := ⟨k.toNat, by omega⟩
  exact ⟨ns[j]'(by omega), atI_nat' (by simp)⟩
end Lw
namespace Lx
open PySem PySem.Spec PyProof.Rows L2 Sa Va Pg
open Lw (Upd GoodS norm_upd cm_left cm_right x_pow Upd.refl Upd.trans Upd.set Upd.split ix0 ix2)
def HandX (M : Mem) (h : Nat) (n : Int) : Prop := ∃ a b c : Int, M[h]? = some (.lst [.d (.int a), .d (.int b), .d (.int c)]) /\ 0 <= a /\ 0 <= b /\ b < 2 ^ 62 /\ 0 <= c /\ c <= n
theorem HandX.mono {M : Mem} {h : Nat} {n m : Int} (x : HandX M h n) (le : n <= m) : HandX M h m := let ⟨a, b, c, e, h1, h2, h3, h4, h5⟩ := x; ⟨a, b, c, e, h1, h2, h3, h4, by omega⟩
theorem HandX.lt {M : Mem} {h : Nat} {n : Int} (x : HandX M h n) : h < M.length := let ⟨_, _, _, e, _⟩ := x; (List.getElem?_eq_some_iff.mp e).1
theorem HandX.app {M J : Mem} {h : Nat} {n : Int} (x : HandX M h n) : HandX (M ++ J) h n := let ⟨a, b, c, e, r⟩ := x; ⟨a, b, c, get_old e, r⟩
theorem HandX.unapp {M J : Mem} {h : Nat} {n : Int} (hl : h < M.length) (x : HandX (M ++ J) h n) : HandX M h n := by
  obtain ⟨a, b, c, e, r⟩ := x
  exact ⟨a, b, c, by rw [List.getElem?_append_left hl] at e; exact e, r⟩
theorem atI_nat8 {x0 x1 x2 x3 x4 x5 x6 x7 : Int} {j : Int} (h0 : 0 <= j) (h8 : j < 8) (P : Int -> Prop) (p0 : P x0) (p1 : P x1) (p2 : P x2) (p3 : P x3) (p4 : P x4) (p5 : P x5) (p6 : P x6) (p7 : P x7) :
    ∃ p : Int, atI [W.d (.int x0), .d (.int x1), .d (.int x2), .d (.int x3), .d (.int x4), .d (.int x5), .d (.int x6), .d (.int x7)] j = some (.d (.int p)) /\ P p := by
  have h : j = 0 ∨ j = 1 ∨ j = 2 ∨ j = 3 ∨ j = 4 ∨ j = 5 ∨ j = 6 ∨ j = 7 := by omega
  rcases h with z | z | z | z | z | z | z | z <;> rw [z]
  · exact ⟨_, atI0, p0⟩
  · exact ⟨_, atI1, p1⟩
  · exact ⟨_, atI2, p2⟩
  · exact ⟨_, atI3, p3⟩
  · exact ⟨_, atI_nat' (k := 4) rfl, p4⟩
  · exact ⟨_, atI_nat' (k := 5) rfl, p5⟩
  · exact ⟨_, atI_nat' (k := 6) rfl, p6⟩
  · exact ⟨_, atI_nat' (k := 7) rfl, p7⟩
theorem take_x {Q : W × Mem -> Prop} {M : Mem} {h : Nat} {n many : Int} (hd : HandX M h n) (nb : n < 2 ^ 40) (mp : 0 < many) (mb : many < 2 ^ 128)
    (k : ∀ v M', 0 <= v -> v < many -> HandX M' h (n + 1) -> Upd h M M' -> Q (.d (.int v), M')) : Ok (F__law_take [.obj h, .d (.int many)] M) Q := by
  have hl := hd.lt
  obtain ⟨a, b, c, e, a0, b0, b1, c0, c1⟩ := hd
  have dv : ∀ {M : Mem}, oDiv (.d (.int a)) (.d (.int many)) M = some (.d (.int (a / many)), M) := x_divW (wide_div (b := 128) mp (by omega) (by decide) (by decide))
  have post : ∀ x M', HandX M' h (n + 1) -> Upd h M M' -> Q (.d (.int (x % many)), M') := fun x M' => k _ M' (Int.emod_nonneg _ (by omega)) (Int.emod_lt_of_pos _ mp)
  by_cases ha : 0 < a
  · have nu := fun x => norm_upd (M := M) (x := x) (h := h) (ws := [.d (.int (a / many)), .d (.int b), .d (.int c)]) (J := []) rfl
    simp only [List.append_nil] at nu
    simp [F__law_take, nf, fnV, g__law_take, e, ha, mp, dv, x_mod, nu]
    exact post _ _ ⟨a / many, b, c, by rw [List.getElem?_set_self hl], Int.ediv_nonneg a0 (by omega), b0, b1, c0, by omega⟩ .set
  · have t1 : -(2 ^ 64) < c + 1 /\ c + 1 < 2 ^ 64 := by omega
    have ct : ∀ x, CMul x (c + 1) := fun x => cm_right t1
    obtain ⟨P, hP, P0, P1⟩ := atI_nat8 (x0 := 2147483647) (x1 := 2147483629) (x2 := 2147483587) (x3 := 2147483579) (x4 := 2147483563) (x5 := 2147483549) (x6 := 2147483543) (x7 := 2147483497) (Int.emod_nonneg (c + 1) (b := 8) (by decide)) (Int.emod_lt_of_pos (c + 1) (by decide))
      (fun P => 0 < P /\ P < 2 ^ 62) (by decide) (by decide) (by decide) (by decide) (by decide) (by decide) (by decide) (by decide)
    have cP : ∀ x y, CMul (x % P) y := fun x y => cm_left (by
      have := Int.emod_nonneg x (Int.ne_of_gt P0)
      have := Int.emod_lt_of_pos x P0
      omega)
    have pw : ∀ {M : Mem}, oPow (.d (.int (b + 104729 * (c + 1)))) (.d (.int 5)) M = some (.d (.int ((b + 104729 * (c + 1)) ^ 5)), M) := x_pow (q := 5) ⟨by decide, by decide, by omega⟩
    have nu := fun x J => norm_upd (M := M) (x := x) (h := h) (ws := [.d (.int a), .d (.int b), .d (.int (c + 1))]) (J := J) rfl
    have gs : (M.set h (.lst [.d (.int a), .d (.int b), .d (.int (c + 1))]))[h]? = some (.lst [.d (.int a), .d (.int b), .d (.int (c + 1))]) := List.getElem?_set_self hl
    have go := fun J => get_old (J := J) gs
    simp [F__law_take, nf, fnV, g__law_take, e, ha, mp, x_div, x_mod, x_mul, gs, go, hP, P0, ct, cP, pw, small_size, nu]
    exact post _ _ ⟨a, b, c + 1, gs, a0, b0, b1, by omega, by omega⟩ .set
theorem HandX.cut {M M1 : Mem} {h : Nat} {n : Int} (hd : HandX M1 h n) (up : Upd h M M1) : Cut M M1 := by
  refine ⟨up.1, fun k mo hk => ?_⟩
  by_cases z : k = h
  · subst z
    obtain ⟨a, b, c, e, _⟩ := hd
    rw [e] at hk
    cases hk
    exact .inr rfl
  · rw [up.2 k z] at hk
    exact .inl hk
theorem HandX.norm {M M1 J : Mem} {h : Nat} {n : Int} {w : W} (hd : HandX M1 h n) (up : Upd h M M1) (d : isD w = true) : norm M (w, M1 ++ J) = (w, M1) := norm_d d (hd.cut up)
theorem HandX.norm0 {M M1 : Mem} {h : Nat} {n : Int} {w : W} (hd : HandX M1 h n) (up : Upd h M M1) (d : isD w = true) : Va.norm M (w, M1) = (w, M1) := by
  have := hd.norm (J := []) up d
  rwa [List.append_nil] at this
/-- taken out of a list -/
theorem of_x {Q : W × Mem -> Prop} {M : Mem} {h l : Nat} {n : Int} {ws : List W} (hd : HandX M h n) (nb : n < 2 ^ 40) (hl : M[l]? = some (.lst ws)) (ne : l ≠ h) (sz : 0 < ws.length) (sb : ws.length < 100000) (isd : ws.all isD = true)
    (k : ∀ w M', w ∈ ws -> HandX M' h (n + 1) -> Upd h M M' -> Q (w, M')) : Ok (F__law_of [.obj h, .obj l] M) Q := by
  have big : (ws.length : Int) < 2 ^ 128 := by omega
  simp [F__law_of, nf, fnV, g__law_of, hl]
  refine take_x (many := ws.length) hd nb (by omega) big fun v M1 v0 v1 hd1 up => ?_
  have hl1 : M1[l]? = some (.lst ws) := by rw [up.2 l ne]; exact hl
  obtain ⟨j, rfl⟩ : ∃ j : Nat, v = j := ⟨v.toNat, by omega⟩
  have hv : j < ws.length := by omega
  have at1 : atI ws (j : Int) = some (ws[j]) := atI_nat' (by simp)
  have hw : isD (ws[j]) = true := List.all_eq_true.mp isd _ (List.getElem_mem hv)
  simp [hl1, at1, hd1.norm0 up hw]
  exact k _ _ (List.getElem_mem hv) hd1 up
/-- a def that draws: at most so many times, and tells what P is so of -/
def DrawsX (F : Fn) (as : Nat -> List W) (cost : Int) (P : W -> Prop) : Prop := ∀ (M : Mem) (h : Nat) (n : Int) (Q : W × Mem -> Prop), HandX M h n -> n + cost < 2 ^ 40 ->
  (∀ w M', P w -> HandX M' h (n + cost) -> Upd h M M' -> Q (w, M')) -> Ok (F (as h) M) Q
theorem DrawsX.app {F : Fn} {as : Nat -> List W} {cost : Int} {P : W -> Prop} (D : DrawsX F as cost P) {M J : Mem} {h : Nat} {n : Int} {Q : W × Mem -> Prop} (hd : HandX M h n) (nb : n + cost < 2 ^ 40)
    (k : ∀ w M', P w -> HandX M' h (n + cost) -> Upd h M M' -> Q (w, M' ++ J)) : Ok (F (as h) (M ++ J)) Q :=
  D _ h n Q hd.app nb fun w M' hp hd' up => by
    obtain ⟨M1, rfl, up1⟩ := up.split hd.lt
    exact k w M1 hp (hd'.unapp (by rw [up1.1]; exact hd.lt)) up1
theorem x_take {many : Int} (mp : 0 < many) (mb : many < 2 ^ 128) : DrawsX F__law_take (fun h => [.obj h, .d (.int many)]) 1 (fun w => ∃ v, w = .d (.int v) /\ 0 <= v /\ v < many) :=
  fun M h n Q hd nb k => take_x hd (by omega) mp mb fun v M' v0 v1 hd' up => k _ M' ⟨v, rfl, v0, v1⟩ hd' up
theorem of_list {M : Mem} {h : Nat} {n : Int} {ws : List W} {Q : W × Mem -> Prop} {J1 J2 : Mem} (hd : HandX M h n) (nb : n < 2 ^ 40) (sz : 0 < ws.length) (sb : ws.length < 100000) (isd : ws.all isD = true)
    (k : ∀ w M', w ∈ ws -> HandX M' h (n + 1) -> Upd h M M' -> Q (w, M' ++ (J1 ++ .lst ws :: J2))) : Ok (F__law_of [.obj h, .obj (M.length + J1.length)] (M ++ (J1 ++ .lst ws :: J2))) Q := by
  refine of_x hd.app nb (by rw [get_newk]; simp) (by have := hd.lt; omega) sz sb isd fun w M' hw hd' up => ?_
  obtain ⟨M1, rfl, up1⟩ := up.split hd.lt
  exact k w M1 hw (hd'.unapp (by rw [up1.1]; exact hd.lt)) up1
abbrev sixW (x : Int) : List W := [.d (.int 0), .d (.int 1), .d (.int (-1)), .d (.int 2), .d (.int 9), .d (.int (-9)), .d (.int x)]
noncomputable abbrev worthE : EvE := eDef 2 (F__law_of) (aCons (eVar 0) (aCons (eLst (aCons (eC (.int 0)) (aCons (eC (.int 1)) (aCons (eUn oNeg (eC (.int 1))) (aCons (eC (.int 2)) (aCons (eC (.int 9)) (aCons (eUn oNeg (eC (.int 9))) (aCons (eOp oSub (eDef 2 (F__law_take) (aCons (eVar 0) (aCons (eC (.int 19)) aNil))) (eC (.int 9))) aNil)))))))) aNil))
theorem worth_x {M : Mem} {h : Nat} {n : Int} {ρ : Ev} {J : Mem} {Q : W × Mem -> Prop} (hρ : ρ[0]? = some (some (.obj h))) (hd : HandX M h n) (nb : n + 2 < 2 ^ 40)
    (k : ∀ v M' J', -9 <= v -> v <= 9 -> HandX M' h (n + 2) -> Upd h M M' -> Q (.d (.int v), M' ++ (J ++ J'))) : Ok (worthE ρ (M ++ J)) Q := by
  simp [hρ]
  refine (x_take (by decide) (by decide)).app hd (by omega) fun w M1 ⟨v, ev, v0, v1⟩ hd1 up1 => ?_
  subst ev
  simp [small_size]
  have l1 : M.length = M1.length := up1.1.symm
  have e : ([W.d (.int 0), .d (.int 1), .d (.int (-1)), .d (.int 2), .d (.int 9), .d (.int (-9)), .d (.int (v - 9))] : List W) = sixW (v - 9) := rfl
  rw [e]
  refine of_list hd1 (by omega) (by simp) (by simp) (by rfl) fun w M2 hw hd2 up2 => ?_
  obtain ⟨x, rfl, x0, x1⟩ : ∃ x, w = .d (.int x) /\ -9 <= x /\ x <= 9 := by
    simp only [sixW, List.mem_cons, List.not_mem_nil, or_false] at hw
    rcases hw with rfl | rfl | rfl | rfl | rfl | rfl | rfl <;> exact ⟨_, rfl, by omega, by omega⟩
  exact k x M2 _ x0 x1 (hd2.mono (by omega)) (up1.trans up2)
theorem worths_x {M : Mem} {h : Nat} {n : Int} {sorts : Nat} {Q : Mem -> Prop} {ρ0 : Ev} (hρ : ρ0[0]? = some (some (.obj h))) (hd : HandX M h n) (hs : sorts <= 6) (nb : n + 12 < 2 ^ 40)
    (k : ∀ (ws : List Int) M' J, ws.length = sorts -> (∀ w ∈ ws, -9 <= w /\ w <= 9) -> HandX M' h (n + 12) -> Upd h M M' -> Q (M' ++ .lst (ws.map fun i => .d (.int i)) :: J)) :
    Ok (lcL [] (gN 6) tTrue worthE ρ0 M.length ((List.range sorts).map fun (k : Nat) => .d (.int (k : Int))) (M ++ [.lst []])) Q := by
  have len : ((List.range sorts).map fun (k : Nat) => W.d (.int (k : Int))).length = sorts := by simp
  refine Ok.mono (lc_ok (items0 := (List.range sorts).map fun (k : Nat) => .d (.int (k : Int))) (fun j M' => ∃ (ws : List Int) (M1 J : Mem), M' = M1 ++ .lst (ws.map fun i => .d (.int i)) :: J /\ ws.length = j /\ (∀ w ∈ ws, -9 <= w /\ w <= 9) /\ HandX M1 h (n + 2 * j) /\ Upd h M M1)
    (fun _ _ _ _ => by simp) (fun j w M' hw ⟨ws, M1, J, e, l, r, hd1, up1⟩ => ?_) _ 0 _ rfl (Nat.zero_le _) ⟨[], M, [], rfl, rfl, fun _ h => by simp at h, by simpa using hd, .refl⟩) fun M' ⟨ws, M1, J, e, l, r, hd1, up1⟩ => ?_
  · subst e
    have hj : j < sorts := by rw [<- len]; exact (List.getElem?_eq_some_iff.mp hw).1
    have hv : (ρ0.set 6 (some w))[0]? = some (some (.obj h)) := by rw [List.getElem?_set_ne (by decide)]; exact hρ
    refine ⟨_, rfl, Ok.of rfl ?_⟩
    simp only [if_true]
    refine worth_x hv hd1 (by omega) fun x M2 J' x0 x1 hd2 up2 => ?_
    have l2 : M2.length = M.length := by rw [up2.1, up1.1]
    rw [<- l2]
    refine ⟨_, by rw [get_new0]; rfl, ?_, ws ++ [x], M2, J ++ J', ?_, by simp [l], fun y hy => ?_, hd2.mono (by omega), up1.trans up2⟩
    · simp only [List.length_map, l]
      exact Nat.lt_of_lt_of_le (Nat.lt_of_lt_of_le hj hs) (by decide)
    · rw [set_new0]
      simp
    · rcases List.mem_append.mp hy with hy | hy
      · exact r y hy
      · rw [List.mem_singleton.mp hy]; exact ⟨x0, x1⟩
  · rw [len] at l hd1
    subst e
    exact k ws M1 J l r (hd1.mono (by omega)) up1
theorem x_simple {sorts : Nat} (h0 : 0 < sorts) (hs : sorts <= 6) : DrawsX F__law_simple (fun h => [.obj h, .d (.int sorts)]) 16 (fun w => ∃ S, w = .d (sD S) /\ GoodS S sorts) := by
  intro M h n Q hd nb k
  have tn : ((sorts : Int)).toNat = sorts := by omega
  simp [F__law_simple, nf, fnV, g__law_simple, tn]
  refine take_x hd (by omega) (by decide) (by decide) fun way M1 w0 w1 hd1 up1 => ?_
  simp
  refine take_x hd1 (by omega) (by decide) (by decide) fun far M2 f0 f1 hd2 up2 => ?_
  simp [tn]
  refine ⟨.of (by omega) (by omega), worths_x rfl hd2 hs (by omega) fun ws M3 J wl wr hd3 up3 => ?_⟩
  have mk : mkTup (ws.map fun i => W.d (.int i)) = .d (wsD ws) := mkTup_of' .int ws
  have l1 : M2.length = M3.length := up3.1.symm
  have up := up1.trans (up2.trans up3)
  simp [l1]
  split
  · refine (x_take (by decide) (by decide)).app hd3 (by omega) fun w M4 ⟨m, em, m0, m1⟩ hd4 up4 => ?_
    subst em
    simp
    refine (x_take (by decide) (by decide)).app hd4 (by omega) fun w M5 ⟨r, er, r0, r1⟩ hd5 up5 => ?_
    subst er
    simp
    obtain ⟨x, hx, x0, x1⟩ : ∃ x : Int, atI [W.d (.int (m - 4)), .d (.int (r - 20)), .d (.int 20), .d (.int (-20))] far = some (.d (.int x)) /\ -20 <= x /\ x <= 20 := by
      have h : far = 0 ∨ far = 1 ∨ far = 2 ∨ far = 3 := by omega
      rcases h with z | z | z | z <;> rw [z]
      · exact ⟨_, atI0, by omega, by omega⟩
      · exact ⟨_, atI1, by omega, by omega⟩
      · exact ⟨_, atI2, by omega, by omega⟩
      · exact ⟨_, atI3, by omega, by omega⟩
    rw [hx]
    have hd6 : HandX M5 h (n + 16) := hd5.mono (by omega)
    have up := up.trans (up4.trans up5)
    simp [mk, small_size]
    rw [hd6.norm up rfl]
    exact k _ M5 ⟨.sum ws x, rfl, wl, wr, (fun _ _ z => by cases z; omega), (fun _ _ _ z => by cases z), hs⟩ hd6 up
  · refine (x_take (by decide) (by decide)).app hd3 (by omega) fun w M4 ⟨m, em, m0, m1⟩ hd4 up4 => ?_
    subst em
    simp
    refine (x_take (many := 2 + m) (by omega) (by omega)).app hd4 (by omega) fun w M5 ⟨r, er, r0, r1⟩ hd5 up5 => ?_
    subst er
    have hd6 : HandX M5 h (n + 16) := hd5.mono (by omega)
    have up := up.trans (up4.trans up5)
    simp [mk, small_size]
    rw [hd6.norm up rfl]
    exact k _ M5 ⟨.rest ws r (2 + m), rfl, wl, wr, (fun _ _ z => by cases z), (fun _ _ _ z => by cases z; omega), hs⟩ hd6 up
end Lx
namespace Lx
open PySem PySem.Spec PyProof.Rows L2 Sa Va Pg
open Lw (Upd GoodS norm_upd cm_left cm_right x_pow Upd.refl Upd.trans Upd.set Upd.split ix0 ix2 pow18 cell_ok)
theorem x_mulW {M : Mem} {p q : Int} (h : CMulW p q) : oMulW (.d (.int p)) (.d (.int q)) M = some (.d (.int (p * q)), M) := x_Ic h
noncomputable def hugeE : EvE := (eOp oMulW (eOp oMulW (eOp oMulW (eOp oPow (eC (.int 10)) (eC (.int 60))) (eOp oPow (eC (.int 10)) (eC (.int 60)))) (eOp oPow (eC (.int 10)) (eC (.int 60)))) (eOp oPow (eC (.int 10)) (eC (.int 60))))
theorem huge_ok : ∃ Z : Int, 0 < Z /\ ∀ ρ M, hugeE ρ M = some (.d (.int Z), M) := by
  obtain ⟨T, t0, t1, ht⟩ : ∃ T : Int, 0 < T /\ T.natAbs < 2 ^ 200 /\ ∀ M, oPow (.d (.int 10)) (.d (.int 60)) M = some (.d (.int T), M) :=
    ⟨10 ^ 60, by decide, by decide, fun M => x_pow (p := 10) (q := 60) ⟨by decide, by decide, by decide⟩⟩
  have u1 : (T * T).natAbs < 2 ^ 400 := wide_lt t1 t1
  have u2 : (T * T * T).natAbs < 2 ^ 600 := wide_lt u1 t1
  have m1 : CMulW T T := wide_mul t1 t1 (by decide) (by decide) (by decide)
  have m2 : CMulW (T * T) T := wide_mul u1 t1 (by decide) (by decide) (by decide)
  have m3 : CMulW (T * T * T) T := wide_mul u2 t1 (by decide) (by decide) (by decide)
  exact ⟨T * T * T * T, Int.mul_pos (Int.mul_pos (Int.mul_pos t0 t0) t0) t0, fun ρ M => by simp [hugeE, ht, x_mulW, m1, m2, m3]⟩
noncomputable def cellE (ns : List Int) : EvE := (eIf (tVal (eOp oLt (eVar 1) (eCall (fLenS ns) (aCons (eVar 0) aNil)))) (eOp (oIxS ns) (eVar 0) (eVar 1)) (eC (.int 0)))
theorem g_hand_eq (ns : List Int) : g__law_hand ns = (sSeq (sSet 2 (cellE ns))
    (sSeq (sSet 3 (eOp oMul (eOp oMod (eCall fAbs (aCons (eVar 2) aNil)) hugeE) (eCall fInt (aCons (eOp oGe (eCall fAbs (aCons (eVar 2) aNil)) (eOp oPow (eC (.int 10)) (eC (.int 18)))) aNil))))
    (sRet (eLst (aCons (eVar 3) (aCons (eOp oAdd (eOp oAdd (eOp oMod (eVar 2) (eC (.int 2305843009213693951))) (eOp oMul (eC (.int 15485863)) (eVar 1))) (eC (.int 29))) (aCons (eC (.int 0)) aNil))))))) := rfl
theorem hand_x {ns : List Int} {M : Mem} {k : Int} {Q : W × Mem -> Prop} (k0 : 0 <= k) (kb : k <= 1000)
    (q : ∀ a b, 0 <= a -> 0 <= b -> b < 2 ^ 62 -> Q (.obj M.length, M ++ [.lst [.d (.int a), .d (.int b), .d (.int 0)]])) : Ok (F__law_hand ns [.scr, .d (.int k)] M) Q := by
  obtain ⟨Z, Z0, hz⟩ := huge_ok
  have cells : ∃ cell : Int, ∀ M, cellE ns [some .scr, some (.d (.int k)), none, none] M = some (.d (.int cell), M) := by
    by_cases hk : k < (ns.length : Int)
    · obtain ⟨v, hv⟩ := cell_ok k0 hk
      exact ⟨v, fun M => by simp [cellE, hk, hv]⟩
    · exact ⟨0, fun M => by simp [cellE, hk]⟩
  obtain ⟨cell, hc⟩ := cells
  have abs0 : 0 <= (if cell < 0 then -cell else cell) := by split <;> omega
  generalize hA : (if cell < 0 then -cell else cell) = A at abs0
  have m0 := Int.emod_nonneg A (Int.ne_of_gt Z0)
  have b0 := Int.emod_nonneg cell (b := 2305843009213693951) (by decide)
  have b1 := Int.emod_lt_of_pos cell (b := 2305843009213693951) (by decide)
  have c1 : ∀ x, CMul x 1 := fun x => cm_right (by decide)
  have c0 : ∀ x, CMul x 0 := fun x => cm_right (by decide)
  have ck : CMul 15485863 k := cm_left (by decide)
  have nm := fun a b : Int => norm_l (M := M) (M1 := M) (j := 0) (us := [.d (.int a), .d (.int b), .d (.int 0)]) (J := [.lst [.d (.int a), .d (.int b), .d (.int 0)]]) rfl rfl .refl
  simp only [Nat.add_zero] at nm
  generalize hB : cell % 2305843009213693951 = B at b0 b1
  by_cases hb : 1000000000000000000 <= A
  · have := q (A % Z) (B + 15485863 * k + 29) m0 (by omega) (by omega)
    simp [F__law_hand, nf, fnV, g_hand_eq, hc, hA, hB, hz, x_mod, Z0, pow18, hb, c1, x_mul, ck, small_size, nm]
    exact this
  · have := q 0 (B + 15485863 * k + 29) (by decide) (by omega) (by omega)
    simp [F__law_hand, nf, fnV, g_hand_eq, hc, hA, hB, hz, x_mod, Z0, pow18, hb, c0, x_mul, ck, small_size, nm]
    exact this
end Lx
namespace Va
open PySem PySem.Spec PyProof.Rows L2 Sa
/-- what is wanted behind the first of two statements: the second one is looked at later -/
def thenQ (b : EvS) (Q : Out -> Prop) : Out -> Prop
  | .nx ρ M => Ok (b ρ M) Q
  | o => Q o
theorem ok_seq {a b : EvS} {ρ : Ev} {M : Mem} {Q : Out -> Prop} : Ok (sSeq a b ρ M) Q ↔ Ok (a ρ M) (thenQ b Q) := by
  have e : sSeq a b ρ M = (a ρ M).bind fun o => match o with | .nx ρ M => b ρ M | o => some o := rfl
  rw [e, ok_bind]
  constructor
  · rintro ⟨x, h1, h2⟩
    refine ⟨x, h1, ?_⟩
    cases x <;> simpa [thenQ] using h2
  · rintro ⟨x, h1, h2⟩
    refine ⟨x, h1, ?_⟩
    cases x <;> simpa [thenQ] using h2
theorem thenQ_nx {b : EvS} {Q : Out -> Prop} {ρ : Ev} {M : Mem} : thenQ b Q (.nx ρ M) = Ok (b ρ M) Q := rfl
section
variable {deps : List (Nat × MO)} {g : EvG} {t : EvT} {e : EvE} {ρ0 : Ev} {M : Mem} {τ : Type}
theorem ga_all (inj : τ -> W) (p : τ -> Bool) (hd : Deps deps M) : ∀ (xs : List τ) (n : Nat), xs.length <= n -> (∀ x ∈ xs, ∃ ρ1, g (inj x) ρ0 = some ρ1 /\ t ρ1 M = some (true, M) /\ e ρ1 M = some (.d (.bool (p x)), M)) ->
    gaL true deps g t e ρ0 n (xs.map inj) M = some (xs.all p, M)
  | [], n, _, _ => by cases n <;> simp [gaL, hd]
  | x :: xs, n, small, turn => by
    obtain ⟨ρ1, h1, h2, h3⟩ := turn x List.mem_cons_self
    obtain ⟨n, rfl⟩ : ∃ k, n = k + 1 := ⟨n - 1, by simp at small; omega⟩
    have ih := ga_all inj p hd xs n (by simp at small; omega) fun y hy => turn y (List.mem_cons_of_mem _ hy)
    cases hp : p x <;> simp [gaL, hd, h1, h2, h3, ih, hp]
end
end Va
namespace Va
open PySem PySem.Spec PyProof.Rows L2 Sa
structure Tame (d : PyData) (D N : Nat) : Prop where
  sh : d.showable = true
  lay : d.canLay0 = true
  dp : d.depth <= D
  wt : d.weight <= N
  sm : d.intsShort 13 = true
theorem Tame.mono {d : PyData} {D N D' N' : Nat} (t : Tame d D N) (h1 : D <= D') (h2 : N <= N') : Tame d D' N' := ⟨t.sh, t.lay, Nat.le_trans t.dp h1, Nat.le_trans t.wt h2, t.sm⟩
theorem small_all : ∀ k : Fin 201, PyData.weight (.int ((k.val : Int) - 100)) <= 50 /\ ((k.val : Int) - 100).natAbs.log2 < 1920 := by decide +kernel
theorem Tame.int {i : Int} (h0 : -100 <= i) (h1 : i <= 100) : Tame (.int i) 0 50 := by
  have q := small_all ⟨(i + 100).toNat, by omega⟩
  have e : (((i + 100).toNat : Nat) : Int) - 100 = i := by omega
  dsimp only at q
  rw [e] at q
  refine ⟨?_, rfl, Nat.le_refl _, q.1, ?_⟩
  · show decide (i.natAbs.log2 < 1920) = true
    exact decide_eq_true q.2
  · show decide ((PyData.shown (.int i)).length <= 13) = true
    exact decide_eq_true (PyData.shown_int_le2 (by omega) (by omega))
theorem Tame.bool (b : Bool) : Tame (.bool b) 0 50 := ⟨rfl, rfl, Nat.le_refl _, by cases b <;> decide +kernel, rfl⟩
theorem Tame.none : Tame .none 0 50 := ⟨rfl, rfl, Nat.le_refl _, by decide +kernel, rfl⟩
theorem Tame.tuple {D N : Nat} : ∀ {ds : List PyData}, (∀ d ∈ ds, Tame d D N) -> Tame (.tuple ds) (D + 1) (ds.length * (N + 1))
  | [], _ => ⟨rfl, rfl, by simp [PyData.depth, PyData.depthAll], by simp [PyData.weight, PyData.weightAll], rfl⟩
  | d :: ds, h => by
    have t := h d List.mem_cons_self
    have r := Tame.tuple (ds := ds) fun x hx => h x (List.mem_cons_of_mem _ hx)
    refine ⟨?_, ?_, ?_, ?_, ?_⟩
    · have := r.sh
      simp only [PyData.showable, PyData.showableAll, Bool.and_eq_true] at this ⊢
      exact ⟨t.sh, this⟩
    · have := r.lay
      simp only [PyData.canLay0, PyData.canLayAll0, Bool.and_eq_true] at this ⊢
      exact ⟨t.lay, this⟩
    · have := r.dp
      have := t.dp
      simp only [PyData.depth, PyData.depthAll] at *
      omega
    · have h1 := r.wt
      have h2 := t.wt
      simp only [PyData.weight, PyData.weightAll, List.length_cons] at *
      rw [Nat.succ_mul]
      omega
    · have := r.sm
      simp only [PyData.intsShort, PyData.intsShortAll, Bool.and_eq_true] at this ⊢
      exact ⟨t.sm, this⟩
theorem Tame.cons {D N D' N' : Nat} {d : PyData} {ds : List PyData} (t : Tame d D N) (r : Tame (.tuple ds) D' N') : Tame (.tuple (d :: ds)) (max (D + 1) D') (N + 1 + N') := by
  refine ⟨?_, ?_, ?_, ?_, ?_⟩
  · have := r.sh
    simp only [PyData.showable, PyData.showableAll, Bool.and_eq_true] at this ⊢
    exact ⟨t.sh, this⟩
  · have := r.lay
    simp only [PyData.canLay0, PyData.canLayAll0, Bool.and_eq_true] at this ⊢
    exact ⟨t.lay, this⟩
  · have := r.dp
    have := t.dp
    simp only [PyData.depth, PyData.depthAll] at *
    omega
  · have h1 := r.wt
    have h2 := t.wt
    simp only [PyData.weight, PyData.weightAll] at *
    omega
  · have := r.sm
    simp only [PyData.intsShort, PyData.intsShortAll, Bool.and_eq_true] at this ⊢
    exact ⟨t.sm, this⟩
theorem Tame.nil : Tame (.tuple []) 1 0 := ⟨rfl, rfl, by simp [PyData.depth, PyData.depthAll], by simp [PyData.weight, PyData.weightAll], rfl⟩
end Va
namespace Pg
open PySem PySem.Spec PyProof.Rows L2 Sa Va
/-- a state that can be shown -/
def ShownS : State -> Prop
  | .mem i xs => (-100 <= i /\ i <= 100) /\ xs.length <= 10 /\ ∀ x ∈ xs, -100 <= x.number /\ x.number <= 100
  | .note ns => ns.length <= 10 /\ ∀ x ∈ ns, -100 <= x.2 /\ x.2 <= 100
end Pg
namespace Va
open PySem PySem.Spec PyProof.Rows L2 Sa
/-- it can be shown: D deep, L signs long at most -/
structure Shw (d : PyData) (D L : Nat) : Prop where
  sh : d.showable = true
  lay : d.canLay0 = true
  dp : d.depth <= D
  ln : d.shown.length <= L
structure ShwA (ds : List PyData) (D L : Nat) : Prop where
  sh : PyData.showableAll ds = true
  lay : PyData.canLayAll0 ds = true
  dp : PyData.depthAll ds <= D
  ln : piled (PyData.shownAll ds) <= L
theorem Shw.mono {d : PyData} {D L D' L' : Nat} (t : Shw d D L) (h1 : D <= D') (h2 : L <= L') : Shw d D' L' := ⟨t.sh, t.lay, Nat.le_trans t.dp h1, Nat.le_trans t.ln h2⟩
theorem ShwA.mono {d : List PyData} {D L D' L' : Nat} (t : ShwA d D L) (h1 : D <= D') (h2 : L <= L') : ShwA d D' L' := ⟨t.sh, t.lay, Nat.le_trans t.dp h1, Nat.le_trans t.ln h2⟩
theorem Shw.int {i : Int} (k : Nat) (hk : 0 < k) (k5 : k <= 500) (h : i.natAbs < 10 ^ k) : Shw (.int i) 0 (k + 1) := by
  have lg : i.natAbs.log2 < 1920 := by
    have : i.natAbs < 2 ^ (1919 + 1) := Nat.lt_of_lt_of_le h (Nat.le_trans (Nat.pow_le_pow_right (by decide) k5) (by decide +kernel))
    by_cases z : i.natAbs = 0
    · rw [z]; decide
    · exact Nat.lt_of_not_le fun q => absurd this (Nat.not_lt.mpr (Nat.le_trans (Nat.pow_le_pow_right (by decide) q) (Nat.log2_self_le z)))
  refine ⟨?_, rfl, Nat.le_refl _, ?_⟩
  · show decide (i.natAbs.log2 < 1920) = true
    exact decide_eq_true lg
  · show (Str.ofString (toString i)).length <= k + 1
    rw [PySem.ofString_length]
    exact int_text_length_le10 hk h
theorem Shw.bool (b : Bool) : Shw (.bool b) 0 5 := ⟨rfl, rfl, Nat.le_refl _, by cases b <;> decide +kernel⟩
theorem Shw.none : Shw .none 0 4 := ⟨rfl, rfl, Nat.le_refl _, by decide +kernel⟩
theorem ShwA.nil : ShwA [] 0 0 := ⟨rfl, rfl, Nat.le_refl _, Nat.le_refl _⟩
theorem ShwA.cons {D L : Nat} {d : PyData} {ds : List PyData} {D' L' : Nat} (t : Shw d D' L') (r : ShwA ds D L) : ShwA (d :: ds) (max D' D) (L' + 2 + L) := by
  refine ⟨?_, ?_, ?_, ?_⟩
  · simp only [PyData.showableAll, t.sh, r.sh, Bool.and_true]
  · simp only [PyData.canLayAll0, t.lay, r.lay, Bool.and_true]
  · simp only [PyData.depthAll]
    have := t.dp; have := r.dp
    omega
  · simp only [PyData.shownAll, piled_cons]
    have := t.ln; have := r.ln
    omega
theorem ShwA.all {D L : Nat} : ∀ {ds : List PyData}, (∀ d ∈ ds, Shw d D L) -> ShwA ds D (ds.length * (L + 2))
  | [], _ => ⟨rfl, rfl, Nat.zero_le _, Nat.zero_le _⟩
  | d :: ds, h => by
    have r := ShwA.all (ds := ds) fun x hx => h x (List.mem_cons_of_mem _ hx)
    exact (r.cons (h d List.mem_cons_self)).mono (by omega) (by simp only [List.length_cons, Nat.add_mul]; omega)
theorem tupleText_len (ts : List Str) : (tupleText ts).length <= piled ts + 3 := by
  unfold tupleText
  rw [strLen_append, strLen_append]
  have e1 : (Str.ofString "(").length = 1 := rfl
  have e2 : ((if ts.length == 1 then ",)" else ")" : String) : Str).length <= 2 := by split <;> decide +kernel
  cases ts with
  | nil => simp only [e1]; show 1 + (Str.join ", " []).length + _ <= _; have : (Str.join ", " []).length = 0 := rfl; omega
  | cons t ts =>
    have := join_length_add (t :: ts) (by simp)
    omega
theorem Shw.tup {ds : List PyData} {D L : Nat} (r : ShwA ds D L) : Shw (.tuple ds) (D + 1) (L + 3) := by
  refine ⟨?_, ?_, ?_, ?_⟩
  · simp only [PyData.showable]; exact r.sh
  · simp only [PyData.canLay0]; exact r.lay
  · simp only [PyData.depth]; have := r.dp; omega
  · simp only [PyData.shown]
    have := tupleText_len (PyData.shownAll ds)
    have := r.ln
    omega
theorem Shw.show {d : PyData} {D L : Nat} (t : Shw d D L) (hD : D <= 60) (hL : L <= 16777216) (ns : ∀ x, d ≠ .str x) : ShowOk d := by
  have nd : d.hasDict = false := PyData.hasDict_of_canLay _ t.lay
  have r : d.showable = true /\ d.hasDict = false /\ d.depth <= 60 /\ d.shown.length <= sizeLine := ⟨t.sh, nd, Nat.le_trans t.dp hD, Nat.le_trans t.ln hL⟩
  cases d with
  | int i => have := t.sh; simpa [PyData.showable, ShowOk] using this
  | str x => exact absurd rfl (ns x)
  | bool b => trivial
  | none => trivial
  | tuple ds => exact r
  | list ds => exact r
  | dict ds => exact r
theorem Shw.shaped {d : PyData} {D L : Nat} (t : Shw d D L) (h : D <= 64) : SeqAt.shaped d = true := by
  unfold SeqAt.shaped
  rw [t.lay, Bool.true_and, decide_eq_true_eq]
  exact Nat.le_trans t.dp h
end Va
namespace Pg
open PySem PySem.Spec PyProof.Rows L2 Sa Va
end Pg
namespace Va
open PySem PySem.Spec PyProof.Rows L2 Sa
theorem deepAll_data (M : Mem) : ∀ (n : Nat) (ds : List PyData), deepAll M n (ds.map W.d) = some ds
  | n, [] => by simp [deepAll]
  | n, d :: ds => by
    have : deepD M n (.d d) = some d := by cases n <;> simp [deepD]
    simp [deepAll, this, deepAll_data M n ds]
theorem deepD_lst {M : Mem} {i : Nat} {ds : List PyData} (h : M[i]? = some (.lst (ds.map W.d))) : deepD M 3 (.obj i) = some (.list ds) := by
  simp [deepD, h, deepAll_data]
theorem shaped_list {ds : List PyData} {D : Nat} (h : ∀ d ∈ ds, d.canLay0 = true /\ d.depth <= D) (hD : D <= 60) : SeqAt.shaped (.list ds) = true := by
  have a : PyData.canLayAll0 ds = true := by
    induction ds with
    | nil => rfl
    | cons d ds ih => simp only [PyData.canLayAll0, (h d List.mem_cons_self).1, ih fun x hx => h x (List.mem_cons_of_mem _ hx), Bool.and_self]
  have b : PyData.depthAll ds <= D := by
    clear a
    induction ds with
    | nil => exact Nat.zero_le _
    | cons d ds ih =>
      simp only [PyData.depthAll]
      have := (h d List.mem_cons_self).2
      have := ih fun x hx => h x (List.mem_cons_of_mem _ hx)
      omega
  unfold SeqAt.shaped
  refine Bool.and_eq_true_iff.mpr ⟨a, decide_eq_true ?_⟩
  have e : (PyData.list ds).depth = PyData.depthAll ds + 1 := by simp only [PyData.depth]
  omega
@[simp] theorem x_isB {p q : Bool} {M : Mem} : oIsB (.d (.bool p)) (.d (.bool q)) M = some (.d (.bool (decide (p = q))), M) := rfl
@[simp] theorem x_notB {p q : Bool} {M : Mem} : oNotB (.d (.bool p)) (.d (.bool q)) M = some (.d (.bool (!decide (p = q))), M) := rfl
end Va
namespace Lx
open PySem PySem.Spec PyProof.Rows L2 Sa Va Pg
open Lw (Upd Upd.refl Upd.trans Upd.set Upd.split)
end Lx
namespace Lw
open PySem PySem.Spec PyProof.Rows L2 Sa Va Pg
/-- states as the law draws them -/
def Drawn (Ss : List Simple) : State -> Prop
  | .mem i xs => (-100 <= i /\ i <= 100) /\ xs.length = Ss.length /\ ∀ t ∈ Ss.zip xs, DrawnH t.1 t.2
  | .note ns => ns.length = Ss.length /\ ∀ t ∈ Ss.zip ns, DrawnN t.1 t.2
section
variable {Ss : List Simple} {kk : Nat}
theorem Drawn.many {s : State} (h : Drawn Ss s) : s.many = Ss.length := by
  cases s with
  | mem i xs => exact h.2.1
  | note ns => exact h.1
theorem zip_right {α β : Type} : ∀ {xs : List α} {ys : List β}, ys.length = xs.length -> ∀ y ∈ ys, ∃ x, (x, y) ∈ xs.zip ys
  | [], [], _, y, h => by simp at h
  | x :: xs, y' :: ys, e, y, h => by
    rcases List.mem_cons.mp h with rfl | h
    · exact ⟨x, by simp⟩
    · obtain ⟨x', hx⟩ := zip_right (by simpa using e) y h
      exact ⟨x', by simp [hx]⟩
  | [], _ :: _, e, _, _ => by simp at e
  | _ :: _, [], e, _, _ => by simp at e
theorem drawnH_num {S : Simple} {x : Hold} (g : GoodS S kk) (hk : 0 < kk) (h : DrawnH S x) : -21 <= x.number /\ x.number <= 21 := by
  have := size_le g hk
  obtain ⟨h1, h2⟩ := h
  exact ⟨by split at h1 <;> omega, by omega⟩
theorem drawnN_num {S : Simple} {x : Bool × Int} (g : GoodS S kk) (hk : 0 < kk) (h : DrawnN S x) : -42 <= x.2 /\ x.2 <= 42 := by
  have := size_le g hk
  obtain ⟨h1, h2⟩ := h
  exact ⟨by split at h1 <;> omega, by split at h2 <;> omega⟩
theorem Drawn.shown (g : ∀ S ∈ Ss, GoodS S kk) (hk : 0 < kk) (few : Ss.length <= 10) {s : State} (h : Drawn Ss s) : ShownS s := by
  cases s with
  | mem i xs =>
    refine ⟨h.1, by rw [h.2.1]; exact few, fun x hx => ?_⟩
    obtain ⟨S, hS⟩ := zip_right h.2.1 x hx
    have := drawnH_num (g S (List.of_mem_zip hS).1) hk (h.2.2 _ hS)
    simp only at this
    omega
  | note ns =>
    refine ⟨by rw [h.1]; exact few, fun x hx => ?_⟩
    obtain ⟨S, hS⟩ := zip_right h.1 x hx
    have := drawnN_num (g S (List.of_mem_zip hS).1) hk (h.2 _ hS)
    simp only at this
    omega
end
/-- a saying and its simple ones, as the law has them -/
structure Said (y : Say) (Ss : List Simple) (kk : Nat) : Prop where
  row : Ss = rowOf y.leaves
  deep : y.deep <= 9
  many : y.leaves.length <= 1000
  good : ∀ S ∈ y.leaves, GoodS S kk
  pos : 0 < kk
  few : kk <= 6
  ten : Ss.length <= 10
theorem nodup_le {α : Type} [DecidableEq α] : ∀ {N ls : List α}, N.Nodup -> (∀ x ∈ N, x ∈ ls) -> N.length <= ls.length
  | [], _, _, _ => by simp
  | x :: N, ls, nd, h => by
    rw [List.nodup_cons] at nd
    have hx := h x List.mem_cons_self
    have := nodup_le (N := N) (ls := ls.erase x) nd.2 fun y hy => (List.mem_erase_of_ne fun z => nd.1 (by rw [<- z]; exact hy)).mpr (h y (List.mem_cons_of_mem _ hy))
    rw [List.length_erase_of_mem hx] at this
    have : 0 < ls.length := List.length_pos_of_mem hx
    simp only [List.length_cons]
    omega
theorem Said.len {y : Say} {Ss : List Simple} {kk : Nat} (sd : Said y Ss kk) : Ss.length <= 10 := sd.ten
theorem Said.some {y : Say} {Ss : List Simple} {kk : Nat} (sd : Said y Ss kk) : 0 < Ss.length := by
  have h1 := y.leaves_pos
  obtain ⟨S, hS⟩ : ∃ S, S ∈ y.leaves := by
    cases e : y.leaves with
    | nil => rw [e] at h1; simp at h1
    | cons S r => exact ⟨S, List.mem_cons_self⟩
  have : S ∈ Ss := by rw [sd.row]; exact (rowOf_mem _ S).mpr hS
  exact List.length_pos_of_mem this
theorem for_range {b : EvS} {i m : Nat} {ρ0 : Ev} {M0 : Mem} (I : Nat -> Ev -> Mem -> Prop) {Q : Out -> Prop} (h0 : I 0 ρ0 M0) (turn : ∀ (j : Nat) (ρ : Ev) (M : Mem), j < m -> I j ρ M -> Ok (b (ρ.set i (some (.d (.int (j : Int))))) M) (forQ (I (j + 1)) (I m) fun _ _ => False)) (fin : ∀ ρ M, I m ρ M -> Q (.nx ρ M)) :
    Ok (forL [] (gN i) b ((List.range m).map fun (k : Nat) => .d (.int (k : Int))) ρ0 M0) Q := by
  refine Ok.mono (for_ok (items0 := (List.range m).map fun (k : Nat) => .d (.int (k : Int))) I (I m) (fun _ _ => False) (fun _ _ _ _ _ => by simp) (fun ρ M h => by simpa using h) (fun j w ρ M hw h => ?_) _ 0 _ _ rfl (Nat.zero_le _) h0) fun o ho => ?_
  · rw [List.getElem?_map] at hw
    obtain ⟨q, hq, rfl⟩ := Option.map_eq_some_iff.mp hw
    have hj : j < m := by have := (List.getElem?_eq_some_iff.mp hq).1; simpa using this
    have ij : q = j := by
      have := (List.getElem?_eq_some_iff.mp hq).2
      rw [List.getElem_range] at this
      exact this.symm
    subst ij
    exact ⟨_, rfl, turn q ρ M hj h⟩
  · cases o with
    | bk ρ M' => exact ho.elim
    | ct ρ M' => exact ho.elim
    | rt w M' => exact ho.elim
    | nx ρ M' => exact fin ρ M' ho
end Lw
namespace Lx
open PySem PySem.Spec PyProof.Rows L2 Sa Va Pg
open Lw (Upd Upd.refl Upd.trans Upd.set Upd.split GoodS)
def PotAt (M : Mem) (p : Nat) : Prop := ∃ f : Int, M[p]? = some (.pot [(.inr "forms", .int f)])
/-- all but the things at h and p is as it was -/
def Upd2 (h p : Nat) (M M' : Mem) : Prop := M'.length = M.length /\ ∀ i, i ≠ h -> i ≠ p -> M'[i]? = M[i]?
theorem Upd2.refl {h p : Nat} {M : Mem} : Upd2 h p M M := ⟨rfl, fun _ _ _ => rfl⟩
theorem Upd2.trans {h p : Nat} {M M1 M2 : Mem} (a : Upd2 h p M M1) (b : Upd2 h p M1 M2) : Upd2 h p M M2 := ⟨b.1.trans a.1, fun i hi hp => (b.2 i hi hp).trans (a.2 i hi hp)⟩
theorem Upd2.of {h p : Nat} {M M1 : Mem} (a : Upd h M M1) : Upd2 h p M M1 := ⟨a.1, fun i hi _ => a.2 i hi⟩
theorem Upd2.setP {h p : Nat} {M : Mem} {x : MO} : Upd2 h p M (M.set p x) := ⟨by simp, fun i _ hp => List.getElem?_set_ne (Ne.symm hp)⟩
theorem Upd2.split {h p : Nat} {M J M' : Mem} (hl : h < M.length) (pl : p < M.length) (up : Upd2 h p (M ++ J) M') : ∃ M1, M' = M1 ++ J /\ Upd2 h p M M1 := by
  have l1 : M'.length = M.length + J.length := by rw [up.1]; simp
  have split : M' = M'.take M.length ++ J := by
    refine List.ext_getElem? fun i => ?_
    by_cases hi : i < M.length
    · rw [List.getElem?_append_left (by simp [l1]; omega), List.getElem?_take_of_lt hi]
    · rw [up.2 i (by omega) (by omega), List.getElem?_append_right (by omega), List.getElem?_append_right (by simp [l1]; omega), List.length_take]
      congr 1
      omega
  refine ⟨M'.take M.length, split, by simp [l1], fun i hi hp => ?_⟩
  by_cases h2 : i < M.length
  · rw [List.getElem?_take_of_lt h2, up.2 i hi hp, List.getElem?_append_left h2]
  · rw [List.getElem?_eq_none (by simp [l1]; omega), List.getElem?_eq_none (by omega)]
theorem PotAt.lt {M : Mem} {p : Nat} (x : PotAt M p) : p < M.length := let ⟨_, e⟩ := x; (List.getElem?_eq_some_iff.mp e).1
theorem PotAt.app {M J : Mem} {p : Nat} (x : PotAt M p) : PotAt (M ++ J) p := let ⟨f, e⟩ := x; ⟨f, get_old e⟩
theorem PotAt.unapp {M J : Mem} {p : Nat} (hl : p < M.length) (x : PotAt (M ++ J) p) : PotAt M p := by
  obtain ⟨f, e⟩ := x
  exact ⟨f, by rw [List.getElem?_append_left hl] at e; exact e⟩
theorem PotAt.upd {M M1 : Mem} {h p : Nat} (x : PotAt M p) (ne : p ≠ h) (up : Upd h M M1) : PotAt M1 p := by
  obtain ⟨f, e⟩ := x
  exact ⟨f, (up.2 p ne).trans e⟩
theorem cut2 {M M1 : Mem} {h p : Nat} {n : Int} (hd : HandX M1 h n) (pt : PotAt M1 p) (up : Upd2 h p M M1) : Cut M M1 := by
  refine ⟨up.1, fun k mo hk => ?_⟩
  by_cases z : k = h
  · subst z
    obtain ⟨a, b, c, e, _⟩ := hd
    rw [e] at hk
    cases hk
    exact .inr rfl
  · by_cases z2 : k = p
    · subst z2
      obtain ⟨f, e⟩ := pt
      rw [e] at hk
      cases hk
      exact .inr rfl
    · rw [up.2 k z z2] at hk
      exact .inl hk
theorem norm2 {M M1 J : Mem} {h p : Nat} {n : Int} {w : W} (hd : HandX M1 h n) (pt : PotAt M1 p) (up : Upd2 h p M M1) (d : isD w = true) : norm M (w, M1 ++ J) = (w, M1) := norm_d d (cut2 hd pt up)
theorem norm20 {M M1 : Mem} {h p : Nat} {n : Int} {w : W} (hd : HandX M1 h n) (pt : PotAt M1 p) (up : Upd2 h p M M1) (d : isD w = true) : norm M (w, M1) = (w, M1) := by
  have := norm2 (J := []) hd pt up d
  rwa [List.append_nil] at this
/-- a saying drawn -/
structure FromP (y : Say) (Ss : List Simple) (dd : Nat) : Prop where
  deep : y.deep <= dd
  sub : ∀ S ∈ y.leaves, S ∈ Ss
  many : y.leaves.length <= 2 ^ (dd - 1)
theorem saying_x {Ss : List Simple} (S0 : 0 < Ss.length) (S1 : Ss.length <= 1000) : ∀ (k deep : Nat) (M : Mem) (h l p : Nat) (n : Int) (Q : W × Mem -> Prop), deep <= k -> 1 <= deep -> deep <= 20 -> M[l]? = some (.lst (Ss.map fun S => .d (sD S))) -> PotAt M p -> HandX M h n -> l ≠ h -> p ≠ h -> l ≠ p -> n + ((2 ^ (deep + 1) : Nat) : Int) < 2 ^ 40 ->
    (∀ y M', FromP y Ss deep -> HandX M' h (n + ((2 ^ (deep + 1) : Nat) : Int) - 2) -> PotAt M' p -> Upd2 h p M M' -> Q (.d (yD y), M')) -> Ok (F__law_saying k [.obj h, .obj l, .d (.int (deep : Int)), .obj p] M) Q
  | 0, deep, _, _, _, _, _, _, h1, h2, _, _, _, _, _, _, _, _, _ => by omega
  | k + 1, deep, M, h, l, p, n, Q, h1, h2, h20, hl, pt, hd, lh, ph, lp, nb, q => by
    have big : 2 ^ (deep + 1) = 2 * 2 ^ deep := by rw [Nat.pow_succ]; omega
    have pos : 2 <= 2 ^ deep := Nat.le_trans (by decide : 2 <= 2 ^ 1) (Nat.pow_le_pow_right (by decide) h2)
    rw [big] at nb q
    generalize hc : 2 ^ deep = c at pos nb q
    push_cast at nb
    have slen : ((Ss.length : Nat) : Int) < 2 ^ 128 := by omega
    simp [F__law_saying, nf, fnV, g__law_saying]
    refine take_x hd (by omega) (by decide) (by decide) fun way M1 w0 w1 hd1 up1 => ?_
    have hl1 := (up1.2 l lh).trans hl
    simp [hl1]
    refine take_x hd1 (by omega) (by omega) slen fun at' M2 a0 a1 hd2 up2 => ?_
    have hl2 := (up2.2 l lh).trans hl1
    obtain ⟨f, pe⟩ := (pt.upd ph up1).upd ph up2
    have pe2 : potAt M2 (.obj p) = some (p, [(.inr "forms", .int f)]) := by simp [potAt, pe]
    have S2 : Ss.length < 100000 := by omega
    simp [sPutP, eIxP, pe2, keyW, potGet, asD, potPut]
    have up3 : Upd2 h p M (M2.set p (.pot [(.inr (Str.ofString "forms"), .int (f - 1))])) := (Upd2.of (up1.trans up2)).trans .setP
    have hl3 : (M2.set p (.pot [(.inr (Str.ofString "forms"), .int (f - 1))]))[l]? = some (.lst (Ss.map fun S => .d (sD S))) := by rw [List.getElem?_set_ne (Ne.symm lp)]; exact hl2
    have hd3 : HandX (M2.set p (.pot [(.inr (Str.ofString "forms"), .int (f - 1))])) h (n + 2) := by
      obtain ⟨a, b, c, e, r⟩ := hd2
      exact ⟨a, b, c, by rw [List.getElem?_set_ne ph]; exact e, r.1, r.2.1, r.2.2.1, r.2.2.2.1, by omega⟩
    have pe3 : potAt (M2.set p (.pot [(.inr (Str.ofString "forms"), .int (f - 1))])) (.obj p) = some (p, [(.inr (Str.ofString "forms"), .int (f - 1))]) := by
      have : (M2.set p (.pot [(.inr (Str.ofString "forms"), .int (f - 1))]))[p]? = some (.pot [(.inr (Str.ofString "forms"), .int (f - 1))]) := List.getElem?_set_self (List.getElem?_eq_some_iff.mp pe).1
      simp [potAt, this]
    have pt3 : PotAt (M2.set p (.pot [(.inr (Str.ofString "forms"), .int (f - 1))])) p := ⟨f - 1, (potAt_eq pe3).2⟩
    generalize M2.set p (.pot [(.inr (Str.ofString "forms"), .int (f - 1))]) = M3 at *
    obtain ⟨j, rfl⟩ : ∃ j : Nat, at' = j := ⟨at'.toNat, by omega⟩
    have jl : j < Ss.length := by omega
    have hj : atI (Ss.map fun S => W.d (sD S)) (j : Int) = some (.d (sD Ss[j])) := atI_nat' (by simp [jl])
    have leaf : Q (norm M (.d (sD Ss[j]), M3)) := by
      rw [norm20 hd3 pt3 up3 rfl]
      refine q (.one Ss[j]) M3 ⟨by simp [Say.deep]; omega, fun S hS => ?_, ?_⟩ (hd3.mono (by omega)) pt3 up3
      · simp [Say.leaves] at hS
        rw [hS]; exact List.getElem_mem jl
      · simp only [Say.leaves, List.length_singleton]; exact Nat.one_le_two_pow
    refine ⟨by decide, ?_⟩
    by_cases c1 : 3 < way
    · rw [if_pos c1]
      simp [hl3, hj]
      exact leaf
    rw [if_neg c1]
    by_cases c2 : (deep : Int) < 2
    · rw [if_pos c2]
      simp [hl3, hj]
      exact leaf
    rw [if_neg c2]
    simp [pe3]
    by_cases c3 : f - 1 < 1
    · rw [if_pos c3]
      simp [hl3, hj]
      exact leaf
    rw [if_neg c3]
    obtain ⟨e, rfl⟩ : ∃ e, deep = e + 1 := ⟨deep - 1, by omega⟩
    have de : ((e + 1 : Nat) : Int) - 1 = (e : Int) := by omega
    have half : 2 ^ (e + 1) = c := hc
    have halfI : ((2 ^ (e + 1) : Nat) : Int) = c := by rw [half]
    simp only [de]
    refine saying_x S0 S1 k e M3 h l p _ _ (by omega) (by omega) (by omega) hl3 pt3 hd3 lh ph lp (by rw [halfI]; omega) fun y M4 fy hd4 pt4 up4 => ?_
    rw [halfI] at hd4
    have hl4 : M4[l]? = some (.lst (Ss.map fun S => .d (sD S))) := (up4.2 l lh lp).trans hl3
    have e1 : 1 <= e := by omega
    have pw : 2 ^ (e + 1 - 1) = 2 * 2 ^ (e - 1) := by
      obtain ⟨d, rfl⟩ : ∃ d, e = d + 1 := ⟨e - 1, by omega⟩
      simp [Nat.pow_succ, Nat.mul_comm]
    have fm := fy.many
    have fd := fy.deep
    by_cases c4 : way = 0
    · rw [if_pos c4]
      simp
      rw [norm20 hd4 pt4 (up3.trans up4) rfl]
      exact q (.no y) M4 ⟨by simp [Say.deep]; omega, fun S hS => fy.sub S (by simpa [Say.leaves] using hS), by simp only [Say.leaves]; rw [pw]; omega⟩ (hd4.mono (by omega)) pt4 (up3.trans up4)
    rw [if_neg c4]
    obtain ⟨x, hx, isw⟩ : ∃ x : Str, atI [W.d (.str "and"), .d (.str "or"), .d (.str "and")] (way - 1) = some (.d (.str x)) /\ (x = "and" ∨ x = "or") := by
      have h : way = 1 ∨ way = 2 ∨ way = 3 := by omega
      rcases h with z | z | z <;> rw [z]
      · exact ⟨_, atI0, .inl rfl⟩
      · exact ⟨_, atI1, .inr rfl⟩
      · exact ⟨_, atI2, .inl rfl⟩
    rw [hx]
    simp
    have J0 := hd4.app (J := [MO.lst [W.d (.str (Str.ofString "and")), .d (.str (Str.ofString "or")), .d (.str (Str.ofString "and"))]])
    refine saying_x S0 S1 k e _ h l p _ _ (by omega) (by omega) (by omega) (get_old hl4) pt4.app J0 lh ph lp (by rw [halfI]; omega) fun z M5 fz hd5 pt5 up5 => ?_
    rw [halfI] at hd5
    obtain ⟨M6, rfl, up6⟩ := up5.split hd4.lt pt4.lt
    have hd6 := hd5.unapp (by rw [up6.1]; exact hd4.lt)
    have pt6 := pt5.unapp (by rw [up6.1]; exact pt4.lt)
    have up := up3.trans (up4.trans up6)
    have fm2 := fz.many
    have fd2 := fz.deep
    simp
    rw [norm2 hd6 pt6 up rfl]
    have sub : ∀ S, S ∈ y.leaves ++ z.leaves -> S ∈ Ss := fun S hS => by
      rcases List.mem_append.mp hS with h | h
      · exact fy.sub S h
      · exact fz.sub S h
    have len : (y.leaves ++ z.leaves).length <= 2 ^ (e + 1 - 1) := by rw [List.length_append, pw]; omega
    rcases isw with rfl | rfl
    · exact q (.an y z) M6 ⟨by simp [Say.deep]; omega, sub, len⟩ (hd6.mono (by omega)) pt6 up
    · exact q (.or y z) M6 ⟨by simp [Say.deep]; omega, sub, len⟩ (hd6.mono (by omega)) pt6 up
end Lx
namespace Tr
open PySem PySem.Spec PyProof.Rows L2 Sa Va Pg
open Lw (GoodS cm_left cm_right nodup_le)
/-- what a saying says, the words of its simple ones given -/
def val (wd : Simple -> Bool) : Say -> Bool
  | .one S => wd S
  | .no a => !val wd a
  | .an a b => val wd a && val wd b
  | .or a b => val wd a || val wd b
/-- a saying of the first laws -/
structure SaidX (y : Say) (Ss : List Simple) (kk : Nat) : Prop where
  row : Ss = rowOf y.leaves
  deep : y.deep <= 9
  many : y.leaves.length <= 1000
  unlike : Ss.length <= 10
  good : ∀ S ∈ y.leaves, GoodS S kk
  pos : 0 < kk
  few : kk <= 6
section
variable {M : Mem} {y : Say} {Ss : List Simple} {kk : Nat}
theorem SaidX.fewS (sd : SaidX y Ss kk) : FewS y.leaves := fun N nd sub => by
  have u := sd.unlike
  rw [sd.row] at u
  have := nodup_le nd fun S hS => (rowOf_mem _ S).mpr (sub S hS)
  omega
theorem SaidX.goodS (sd : SaidX y Ss kk) : ∀ S ∈ Ss, GoodS S kk := fun S hS => sd.good S (by have := sd.row; rw [this] at hS; exact (rowOf_mem _ S).mp hS)
theorem SaidX.len (sd : SaidX y Ss kk) : Ss.length <= 10 := sd.unlike
theorem SaidX.simples (sd : SaidX y Ss kk) : F_simples [.d (yD y)] M = some (.d (.tuple (Ss.map sD)), M) := by
  rw [sd.row]; exact F_simples_eq y sd.deep sd.many sd.fewS
end
end Tr
namespace Va
open PySem PySem.Spec PyProof.Rows L2 Sa
@[simp] theorem addG_int {M : Mem} {p q : Int} : oAddG (.d (.int p)) (.d (.int q)) M = some (.d (.int (p + q)), M) := rfl
end Va
namespace Lx
open PySem PySem.Spec PyProof.Rows L2 Sa Va Pg
open Lw (Upd Upd.refl Upd.trans Upd.set Upd.split)
theorem draws_of {F : Fn} {as : Nat -> List W} {cost : Int} {P : W -> Prop} (D : DrawsX F as cost P) (c0 : 0 <= cost) {M : Mem} {h : Nat} {n : Int} {sorts i : Nat} {E : EvE} {Q : Mem -> Prop} {ρ0 : Ev} (hE : ∀ w M, E (ρ0.set i (some w)) M = F (as h) M) (hd : HandX M h n) (hs : sorts <= 1000) (nb : n + cost * sorts < 2 ^ 40)
    (k : ∀ (ws : List W) M', ws.length = sorts -> (∀ w ∈ ws, P w) -> HandX M' h (n + cost * sorts) -> Upd h M M' -> Q (M' ++ [.lst ws])) :
    Ok (lcL [] (gN i) tTrue E ρ0 M.length ((List.range sorts).map fun (k : Nat) => .d (.int (k : Int))) (M ++ [.lst []])) Q := by
  have len : ((List.range sorts).map fun (k : Nat) => W.d (.int (k : Int))).length = sorts := by simp
  refine Ok.mono (lc_ok (items0 := (List.range sorts).map fun (k : Nat) => .d (.int (k : Int))) (fun j M' => ∃ (ws : List W) (M1 : Mem), M' = M1 ++ [.lst ws] /\ ws.length = j /\ (∀ w ∈ ws, P w) /\ HandX M1 h (n + cost * j) /\ Upd h M M1)
    (fun _ _ _ _ => by simp) (fun j w M' hw ⟨ws, M1, e, l, r, hd1, up1⟩ => ?_) _ 0 _ rfl (Nat.zero_le _) ⟨[], M, rfl, rfl, fun _ h => by simp at h, by simpa using hd, .refl⟩) fun M' ⟨ws, M1, e, l, r, hd1, up1⟩ => ?_
  · subst e
    have hj : j < sorts := by rw [<- len]; exact (List.getElem?_eq_some_iff.mp hw).1
    refine ⟨_, rfl, Ok.of rfl ?_⟩
    simp only [if_true]
    rw [hE]
    have e1 : cost * ((j + 1 : Nat) : Int) = cost * j + cost := by rw [Int.natCast_add, Int.mul_add]; simp
    have e2 : cost * ((j + 1 : Nat) : Int) <= cost * sorts := Int.mul_le_mul_of_nonneg_left (by omega) c0
    refine D.app hd1 (by omega) fun w2 M2 pw hd2 up2 => ?_
    have l2 : M2.length = M.length := by rw [up2.1, up1.1]
    rw [<- l2]
    refine ⟨_, by rw [get_new0]; rfl, ?_, ws ++ [w2], M2, ?_, by simp [l], fun y hy => ?_, hd2.mono (by omega), up1.trans up2⟩
    · simp only [l]
      exact Nat.lt_of_lt_of_le (by omega : j < 1001) (by decide)
    · rw [set_new0]
      simp
    · rcases List.mem_append.mp hy with hy | hy
      · exact r y hy
      · rw [List.mem_singleton.mp hy]; exact pw
  · rw [len] at l hd1
    subst e
    exact k ws M1 l r hd1 up1
theorem pre_of {τ : Type} {f : τ -> W} {P : τ -> Prop} : ∀ {ws : List W}, (∀ w ∈ ws, ∃ t, w = f t /\ P t) -> ∃ ts : List τ, ws = ts.map f /\ ∀ t ∈ ts, P t
  | [], _ => ⟨[], rfl, fun _ h => by simp at h⟩
  | w :: ws, h => by
    obtain ⟨t, e, p⟩ := h w List.mem_cons_self
    obtain ⟨ts, e2, p2⟩ := pre_of (ws := ws) fun x hx => h x (List.mem_cons_of_mem _ hx)
    exact ⟨t :: ts, by rw [e, e2]; rfl, fun x hx => by
      rcases List.mem_cons.mp hx with rfl | hx
      · exact p
      · exact p2 x hx⟩
end Lx
namespace K07
open PySem PySem.Spec PyProof.Rows L2 Sa Va Pg Lx Tr
open Lw (Upd GoodS cm_left cm_right size_pos size_le for_range Upd.refl Upd.trans DrawnH maxI_app)
section
variable {M : Mem} {kk : Nat} {S : Simple} {n : Int} {y : Say}
theorem size_eq (g : GoodS S kk) (hk : 0 < kk) : F__law_size [.d (sD S)] M = some (.d (.int (sizeM S)), M) := by
  have h := g.wf hk
  have k6 := g.few
  have small : S.ws.length <= 1000 := by rw [g.many]; omega
  cases S with
  | sum ws c =>
    have ne : ws ≠ [] := h.some
    have sm : ws.length <= 1000 := small
    have e : ∀ ρ0 : Ev, ρ0.length = 2 -> lcL [] (gN 1) tTrue (eCall fAbs (aCons (eVar 1) aNil)) ρ0 M.length (ws.map fun w => .d (.int w)) (M ++ [.lst []]) = some (M ++ [.lst (ws.map fun w => .d (.int (absI w)))]) := by
      intro ρ0 hρ
      refine lc_map _ _ _ (fun _ => by simp) (by omega) fun t ht => ?_
      match ρ0, hρ with
      | [r0, r1], _ => exact ⟨_, by simp; rfl, fun acc => by simp⟩
    have iis : intsOf ((ws.map fun w => W.d (.int (absI w))) ++ [.d (.int (absI c + 1))]) = some (ws.map absI ++ [absI c + 1]) := by
      have := x_intsM (ws.map absI ++ [absI c + 1])
      simpa [List.map_map, Function.comp_def] using this
    have s2 : ws.length + 1 <= sizeLine := Nat.le_trans (Nat.succ_le_succ sm) (by decide)
    have mx := maxI_app (xs := ws.map absI) (y := absI c + 1) (by simpa using ne)
    simp [F__law_size, nf, fnV, g__law_size, sD, nsr, Function.comp_def, e, oCat, small_size, s2, fMaxL, iis, mx, sizeM, Nat.add_assoc]
    rw [Int.add_comm 1 (absI c)]
  | rest ws r m => simp [F__law_size, nf, fnV, g__law_size, sD, sizeM]
theorem so_eq : F__law_so [.d (sD S), .d (.int n)] M = some (.d (.bool (saysM S n)), M) := by
  cases S with
  | sum ws c => simp [F__law_so, nf, fnV, g__law_so, sD, nsr, saysM]
  | rest ws r m => simp [F__law_so, nf, fnV, g__law_so, sD, saysM]
end
end K07
namespace Ls
open PySem PySem.Spec PyProof.Rows L2 Sa Va
noncomputable def g__law_saying (self : Fn) : EvS :=
    (sSeq (sSet 3 (eDef 2 (Lw.F__law_take) (aCons (eVar 0) (aCons (eC (.int 4)) aNil))))
    (sSeq (sIf (tOrE (tVal (eOp oLt (eVar 2) (eC (.int 2)))) (tVal (eOp oEq (eVar 3) (eC (.int 0))))) (sRet (eDef 2 (Lw.F__law_simple) (aCons (eVar 0) (aCons (eVar 1) aNil)))) sNil)
    (sSeq (sSet 4 (eDef 3 self (aCons (eVar 0) (aCons (eVar 1) (aCons (eOp oSub (eVar 2) (eC (.int 1))) aNil)))))
    (sSeq (sIf (tVal (eOp oEq (eVar 3) (eC (.int 1)))) (sRet (eTup (aCons (eC (.str "not")) (aCons (eVar 4) aNil)))) sNil)
    (sRet (eTup (aCons (eOp oIx (eLst (aCons (eC (.str "and")) (aCons (eC (.str "or")) aNil))) (eOp oSub (eVar 3) (eC (.int 2)))) (aCons (eVar 4) (aCons (eDef 3 self (aCons (eVar 0) (aCons (eVar 1) (aCons (eOp oSub (eVar 2) (eC (.int 1))) aNil)))) aNil)))))))))
noncomputable def F__law_saying : Nat -> Fn
  | 0 => fun _ _ => none
  | k + 1 => nf (fnV 5 (g__law_saying (F__law_saying k)))
end Ls
namespace Ls
open PySem PySem.Spec PyProof.Rows L2 Sa Va Pg Lw
theorem shaped_of {d : PyData} {D N : Nat} (t : Tame d D N) (h : D <= 64) : SeqAt.shaped d = true := by
  unfold SeqAt.shaped
  rw [t.lay, Bool.true_and, decide_eq_true_eq]
  exact Nat.le_trans t.dp h
end Ls
namespace Ls
open PySem PySem.Spec PyProof.Rows L2 Sa Va Pg Lw
variable {M : Mem}
theorem deepAll_d {τ : Type} (f : τ -> PyData) (n : Nat) : ∀ (xs : List τ), deepAll M n (xs.map fun p => W.d (f p)) = some (xs.map f)
  | [] => by simp [deepAll]
  | x :: xs => by
    have : deepD M n (W.d (f x)) = some (f x) := by cases n <;> simp [deepD]
    simp [deepAll, this, deepAll_d f n xs]
theorem shaped_list {ds : List PyData} : SeqAt.shaped (.list ds) = SeqAt.shaped (.tuple ds) := by
  simp [SeqAt.shaped, PyData.canLay0, PyData.depth]
end Ls
namespace Ls
open PySem PySem.Spec PyProof.Rows L2 Sa Va Pg Lw
end Ls
namespace Ls
open PySem PySem.Spec PyProof.Rows L2 Sa Va Pg Lw
theorem eqvAll_int : ∀ (xs ys : List Int), PyData.eqvAll (xs.map .int) (ys.map .int) = decide (xs = ys)
  | [], [] => by simp [PyData.eqvAll]
  | [], y :: ys => by simp [PyData.eqvAll]
  | x :: xs, [] => by simp [PyData.eqvAll]
  | x :: xs, y :: ys => by
    simp only [List.map_cons, PyData.eqvAll, eqvAll_int xs ys, PyData.eqv]
    by_cases h1 : x = y <;> by_cases h2 : xs = ys <;> simp [h1, h2]
theorem eqv_sD (S T : Simple) : PyData.eqv (sD S) (sD T) = decide (S = T) := by
  cases S with
  | sum ws c =>
    cases T with
    | sum vs d =>
      simp only [sD, wsD, PyData.eqv, PyData.eqvAll, eqvAll_int, Bool.and_true]
      by_cases h1 : ws = vs <;> by_cases h2 : c = d <;> simp [h1, h2]
    | rest vs r m => simp [sD, PyData.eqv, PyData.eqvAll]
  | rest ws r m =>
    cases T with
    | sum vs d => simp [sD, PyData.eqv, PyData.eqvAll]
    | rest vs q k =>
      simp only [sD, wsD, PyData.eqv, PyData.eqvAll, eqvAll_int, Bool.and_true]
      by_cases h1 : ws = vs <;> by_cases h2 : r = q <;> by_cases h3 : m = k <;> simp [h1, h2, h3]
theorem any_sD (F : List Simple) (S : Simple) : ((F.map sD).any fun z => PyData.eqv z (sD S)) = decide (S ∈ F) := by
  induction F with
  | nil => simp
  | cons T F ih =>
    simp only [List.map_cons, List.any_cons, ih, eqv_sD]
    by_cases h1 : T = S
    · simp [h1]
    · have h2 : ¬ S = T := fun z => h1 z.symm
      simp [h1, h2]
theorem tame_sum : Tame (.str "sum") 0 50 := ⟨rfl, by decide +kernel, Nat.le_refl _, by decide +kernel, rfl⟩
theorem tame_rest : Tame (.str "rest") 0 50 := ⟨rfl, by decide +kernel, Nat.le_refl _, by decide +kernel, rfl⟩
theorem tame_sD {S : Simple} {k : Nat} (g : GoodS S k) (h6 : k <= 6) : Tame (sD S) 3 1000 := by
  have tw : Tame (wsD S.ws) 1 400 := by
    refine (Tame.tuple (D := 0) (N := 50) fun d hd => ?_).mono (by decide) (by rw [List.length_map, g.many]; omega)
    obtain ⟨w, hw, rfl⟩ := List.mem_map.mp hd
    have := g.worth w hw
    exact Tame.int (by omega) (by omega)
  cases S with
  | sum ws c =>
    have := g.sum ws c rfl
    exact (tame_sum.cons (tw.cons ((Tame.int (i := c) (by omega) (by omega)).cons .nil))).mono (by decide) (by decide)
  | rest ws r m =>
    have := g.rest ws r m rfl
    exact (tame_rest.cons (tw.cons ((Tame.int (i := r) (by omega) (by omega)).cons ((Tame.int (i := m) (by omega) (by omega)).cons .nil)))).mono (by decide) (by decide)
theorem shaped_sDs {F : List Simple} {k : Nat} (g : ∀ S ∈ F, GoodS S k) (h6 : k <= 6) : SeqAt.shaped (.list (F.map sD)) = true := by
  rw [shaped_list]
  refine shaped_of (D := 4) (N := (F.map sD).length * 1001) (Tame.tuple (D := 3) (N := 1000) fun d hd => ?_) (by decide)
  obtain ⟨S, hS, rfl⟩ := List.mem_map.mp hd
  exact tame_sD (g S hS) h6
/-- put in what isn't there yet -/
def ins (F : List Simple) (S : Simple) : List Simple := if S ∈ F then F else F ++ [S]
variable {M : Mem}
abbrev lstS (F : List Simple) : MO := .lst (F.map fun S => W.d (sD S))
theorem notIn_eq {F : List Simple} {S : Simple} {k i : Nat} (hi : M[i]? = some (lstS F)) (gF : ∀ S ∈ F, GoodS S k) (gS : GoodS S k) (h6 : k <= 6) : oNotInL (.d (sD S)) (.obj i) M = some (.d (.bool (!decide (S ∈ F))), M) := by
  have s1 := shaped_of (tame_sD gS h6) (by decide)
  have s2 := shaped_sDs gF h6
  have e := deepAll_d (M := M) sD 0 F
  have a := any_sD F S
  rw [List.any_map] at a
  simp [oNotInL, inL, hi, e, s1, s2, a]
theorem rep0 {l : Nat} {w : W} (h : M[l]? = some (.lst [w])) : oRep (.obj l) (.d (.int 0)) M = some (.obj M.length, M ++ [.lst []]) := by
  have e : lstAt M (.obj l) = some (l, [w]) := x_lstAt h
  simp only [oRep, e, asI, Option.bind_some]
  rw [if_pos ⟨by decide, by decide, by simp⟩]
  rfl
theorem rep1 {l : Nat} {w : W} (h : M[l]? = some (.lst [w])) : oRep (.obj l) (.d (.int 1)) M = some (.obj M.length, M ++ [.lst [w]]) := by
  have e : lstAt M (.obj l) = some (l, [w]) := x_lstAt h
  simp only [oRep, e, asI, Option.bind_some]
  rw [if_pos ⟨by decide, by decide, by show 1 <= sizeLine; decide⟩]
  rfl
theorem cat_eq {i j : Nat} {us vs : List W} (h1 : M[i]? = some (.lst us)) (h2 : M[j]? = some (.lst vs)) (small : us.length + vs.length <= 2000) : oCat (.obj i) (.obj j) M = some (.obj M.length, M ++ [.lst (us ++ vs)]) := by
  simp only [oCat, x_lstAt h1, x_lstAt h2, Option.bind_some]
  rw [if_pos (Nat.le_trans small (by decide))]
theorem ins_turn {F : List Simple} {S : Simple} {k i : Nat} {y0 z0 : Option W} (hi : M[i]? = some (lstS F)) (gF : ∀ S ∈ F, GoodS S k) (gS : GoodS S k) (h6 : k <= 6) (few : F.length <= 1000) :
    ∃ J i', (sSet 1 (eOp oCat (eVar 1) (eOp oRep (eLst (aCons (eVar 3) aNil)) (eCall fInt (aCons (eOp oNotInL (eVar 3) (eVar 1)) aNil))))) [y0, some (.obj i), z0, some (.d (sD S))] M = some (.nx [y0, some (.obj i'), z0, some (.d (sD S))] (M ++ J)) /\ (M ++ J)[i']? = some (lstS (ins F S)) := by
  have ni := notIn_eq (M := M ++ [.lst [W.d (sD S)]]) (get_old hi) gF gS h6
  have at0 : (M ++ [MO.lst [W.d (sD S)]])[M.length]? = some (.lst [W.d (sD S)]) := by simp
  by_cases h : S ∈ F
  · simp only [h, decide_true, Bool.not_true] at ni
    have r := rep0 at0
    have c := cat_eq (M := M ++ [MO.lst [W.d (sD S)]] ++ [.lst []]) (i := i) (j := M.length + 1) (us := F.map fun S => W.d (sD S)) (vs := []) (get_old (get_old hi)) (by simp) (by simp; omega)
    simp only [List.length_append, List.length_singleton, List.append_assoc, List.cons_append, List.nil_append] at r c
    refine ⟨[MO.lst [W.d (sD S)], .lst [], .lst (F.map fun S => W.d (sD S))], M.length + 2, ?_, ?_⟩
    · simp [ni, r, c]
    · simp [ins, h]
  · simp only [h, decide_false, Bool.not_false] at ni
    have r := rep1 at0
    have c := cat_eq (M := M ++ [MO.lst [W.d (sD S)]] ++ [.lst [W.d (sD S)]]) (i := i) (j := M.length + 1) (us := F.map fun S => W.d (sD S)) (vs := [W.d (sD S)]) (get_old (get_old hi)) (by simp) (by simp; omega)
    simp only [List.length_append, List.length_singleton, List.append_assoc, List.cons_append, List.nil_append] at r c
    refine ⟨[MO.lst [W.d (sD S)], .lst [W.d (sD S)], .lst ((F.map fun S => W.d (sD S)) ++ [W.d (sD S)])], M.length + 2, ?_, ?_⟩
    · simp [ni, r, c]
    · simp [ins, h]
theorem ins_mem (F : List Simple) (S T : Simple) : T ∈ ins F S ↔ T ∈ F ∨ T = S := by
  unfold ins
  split
  · rename_i h
    exact ⟨.inl, fun z => by rcases z with z | z; exact z; rw [z]; exact h⟩
  · simp
theorem ins_nodup {F : List Simple} {S : Simple} (nd : F.Nodup) : (ins F S).Nodup := by
  unfold ins
  split
  · exact nd
  · rename_i h
    rw [List.nodup_append]
    exact ⟨nd, by simp, fun a ha b hb => by simp at hb; rw [hb]; exact fun z => h (by rw [<- z]; exact ha)⟩
theorem ins_len (F : List Simple) (S : Simple) : (ins F S).length <= F.length + 1 := by
  unfold ins
  split <;> simp
/-- a found row, of what ls has -/
structure Found (F ls : List Simple) (k : Nat) : Prop where
  nd : F.Nodup
  mem : ∀ S, S ∈ F ↔ S ∈ ls
  good : ∀ S ∈ F, GoodS S k
  few : F.length <= ls.length
theorem Found.ins {F ls : List Simple} {k : Nat} (f : Found F ls k) {S : Simple} (g : GoodS S k) : Found (ins F S) (ls ++ [S]) k :=
  ⟨ins_nodup f.nd, fun T => by rw [ins_mem, f.mem]; simp, fun T hT => by
    rcases (ins_mem F S T).mp hT with z | z
    · exact f.good T z
    · rw [z]; exact g, by have := ins_len F S; have := f.few; simp; omega⟩
abbrev insB : EvS := sSet 1 (eOp oCat (eVar 1) (eOp oRep (eLst (aCons (eVar 3) aNil)) (eCall fInt (aCons (eOp oNotInL (eVar 3) (eVar 1)) aNil))))
/-- what the inner loop does: M grows, slot 1 holds the found row -/
def InI (y0 z0 : Option W) (M0 : Mem) (ls : List Simple) (k : Nat) (ρ : Ev) (M : Mem) : Prop := ∃ J i w F, M = M0 ++ J /\ ρ = [y0, some (.obj i), z0, w] /\ M[i]? = some (lstS F) /\ Found F ls k
theorem inner {y0 z0 : Option W} {M0 : Mem} {ls Ts : List Simple} {k l : Nat} {ρ : Ev} (h6 : k <= 6) (hl : M0[l]? = some (lstS Ts)) (gT : ∀ S ∈ Ts, GoodS S k) (few : ls.length + Ts.length <= 1000) (h0 : InI y0 z0 M0 ls k ρ M) :
    Ok (forL [(l, .lst (Ts.map fun S => W.d (sD S)))] (gN 3) insB (Ts.map fun S => W.d (sD S)) ρ M) fun o => ∃ ρ' M', o = .nx ρ' M' /\ InI y0 z0 M0 (ls ++ Ts) k ρ' M' := by
  refine Ok.mono (for_ok (items0 := Ts.map fun S => W.d (sD S)) (fun j ρ M => InI y0 z0 M0 (ls ++ Ts.take j) k ρ M) (fun ρ M => InI y0 z0 M0 (ls ++ Ts) k ρ M) (fun _ _ => False) (fun j ρ M _ h => ?_) (fun ρ M h => ?_) (fun j w ρ M hw h => ?_) _ 0 _ _ rfl (Nat.zero_le _) (by simpa using h0)) fun o ho => ?_
  · obtain ⟨J, i, w, F, rfl, _, _, _⟩ := h
    rw [Deps.one]
    exact get_old hl
  · simpa using h
  · rw [List.getElem?_map] at hw
    obtain ⟨S, hS, rfl⟩ := Option.map_eq_some_iff.mp hw
    obtain ⟨J, i, w, F, rfl, rfl, hi, f⟩ := h
    have gS := gT S (List.mem_of_getElem? hS)
    have tl : (Ts.take j).length <= Ts.length := by simp; omega
    have ff := f.few
    simp only [List.length_append] at ff
    obtain ⟨J', i', e, hi'⟩ := ins_turn (y0 := y0) (z0 := z0) hi f.good gS h6 (by omega)
    refine ⟨_, rfl, _, e, J ++ J', i', _, ins F S, by simp, rfl, hi', ?_⟩
    have := f.ins gS
    have tk : ls ++ List.take (j + 1) Ts = ls ++ List.take j Ts ++ [S] := by rw [List.take_succ, hS]; simp
    rw [tk]
    exact this
  · cases o with
    | nx ρ M' => exact ⟨ρ, M', rfl, ho⟩
    | bk ρ M' => exact ho.elim
    | ct ρ M' => exact ho.elim
    | rt w M' => exact ho.elim
end Ls
namespace K07
open PySem PySem.Spec PyProof.Rows L2 Sa Va Pg Lx Tr
open Lw (Upd GoodS cm_left cm_right size_pos size_le for_range Upd.refl Upd.trans DrawnH maxI_app)
/-- some of a list that is walked while it stands -/
theorem lc_selD {τ : Type} {deps : List (Nat × MO)} {g : EvG} {t : EvT} {e : EvE} {ρ0 : Ev} {M : Mem} (inj f : τ -> W) (p : τ -> Bool) (hd : ∀ acc, Deps deps (M ++ [.lst acc])) : ∀ (xs : List τ) (acc : List W), acc.length + xs.length <= 1000000 -> (∀ x ∈ xs, ∃ ρ1, g (inj x) ρ0 = some ρ1 /\ ∀ acc, t ρ1 (M ++ [.lst acc]) = some (p x, M ++ [.lst acc]) /\ e ρ1 (M ++ [.lst acc]) = some (f x, M ++ [.lst acc])) ->
    lcL deps g t e ρ0 M.length (xs.map inj) (M ++ [.lst acc]) = some (M ++ [.lst (acc ++ (xs.filter p).map f)])
  | [], acc, _, _ => by simp [lcL, hd]
  | x :: xs, acc, small, turn => by
    obtain ⟨ρ1, h1, h2⟩ := turn x List.mem_cons_self
    have fits : acc.length < sizeLine := Nat.lt_of_lt_of_le (by simp at small; omega : acc.length < 1000001) (by decide)
    cases hp : p x with
    | true =>
      have ih := lc_selD inj f p hd xs (acc ++ [f x]) (by simp at small ⊢; omega) fun y hy => turn y (List.mem_cons_of_mem _ hy)
      simp [lcL, hd, h1, h2, hp, fits, ih]
    | false =>
      have ih := lc_selD inj f p hd xs acc (by simp at small; omega) fun y hy => turn y (List.mem_cons_of_mem _ hy)
      simp [lcL, hd, h1, h2, hp, ih]
end K07
namespace K07
open PySem PySem.Spec PyProof.Rows L2 Sa Va Pg Lx Tr
open Lw (Upd GoodS cm_left cm_right size_pos size_le for_range Upd.refl Upd.trans DrawnH maxI_app)
section
variable {M : Mem} {kk : Nat} {S : Simple} {y : Say} {Ss : List Simple}
theorem sorts_loop : ∀ (y : Say) (k : Nat), y.deep < k -> (∀ S ∈ y.leaves, GoodS S kk) -> ∃ S, GoodS S kk /\ whN (tVal (eDef 1 (Pg.F_is_joined) (aCons (eVar 0) aNil))) (sSet 0 (eOp oIx (eVar 0) (eC (.int 1)))) k [some (.d (yD y))] M = some (.nx [some (.d (sD S))] M)
  | _, 0, h, _ => by omega
  | .one S, k + 1, h, g => by
    have j := fun M => F_is_joined_eq (M := M) (.one S)
    simp only [yD] at j
    exact ⟨S, g S (by simp [Say.leaves]), by simp [whN, yD, j, Say.joined]⟩
  | .no a, k + 1, h, g => by
    obtain ⟨S, gS, e⟩ := sorts_loop a k (by simp [Say.deep] at h; omega) (by simpa [Say.leaves] using g)
    have j := fun M => F_is_joined_eq (M := M) (.no a)
    simp only [yD] at j
    exact ⟨S, gS, by simp [whN, yD, j, Say.joined]; exact e⟩
  | .an a b, k + 1, h, g => by
    obtain ⟨S, gS, e⟩ := sorts_loop a k (by simp [Say.deep] at h; omega) fun S hS => g S (by simp [Say.leaves, hS])
    have j := fun M => F_is_joined_eq (M := M) (.an a b)
    simp only [yD] at j
    exact ⟨S, gS, by simp [whN, yD, j, Say.joined]; exact e⟩
  | .or a b, k + 1, h, g => by
    obtain ⟨S, gS, e⟩ := sorts_loop a k (by simp [Say.deep] at h; omega) fun S hS => g S (by simp [Say.leaves, hS])
    have j := fun M => F_is_joined_eq (M := M) (.or a b)
    simp only [yD] at j
    exact ⟨S, gS, by simp [whN, yD, j, Say.joined]; exact e⟩
theorem sorts_eq (sd : SaidX y Ss kk) : F_sorts_of [.d (yD y)] M = some (.d (.int (kk : Int)), M) := by
  obtain ⟨S, gS, e⟩ := sorts_loop (M := M) (kk := kk) y 1000000 (by have := sd.deep; omega) sd.good
  have ln := gS.many
  cases S with
  | sum ws c =>
    have ln : ws.length = kk := ln
    simp only [sD] at e
    simp [F_sorts_of, nf, fnV, g_sorts_of, e, ln]
  | rest ws r m =>
    have ln : ws.length = kk := ln
    simp only [sD] at e
    simp [F_sorts_of, nf, fnV, g_sorts_of, e, ln]
end
end K07
namespace K53
open PySem PySem.Spec PyProof.Rows L2 Sa Va
noncomputable def g__law_box (ns : List Int) : EvS :=
    (sSeq (sSet 2 (eIf (tVal (eOp oLt (eVar 1) (eCall (fLenS ns) (aCons (eVar 0) aNil)))) (eOp (oIxS ns) (eVar 0) (eVar 1)) (eC (.int 0))))
    (sSeq (sSet 3 (eOp oMod (eOp oMul (eOp oAdd (eOp oAdd (eOp oMod (eVar 2) (eC (.int 2305843009213693951))) (eOp oMul (eC (.int 104729)) (eVar 1))) (eC (.int 7))) (eC (.int 48271))) (eC (.int 2305843009213693921))))
    (sRet (eLst (aCons (eOp oMul (eCall fAbs (aCons (eVar 2) aNil)) (eCall fInt (aCons (eOp oGe (eCall fAbs (aCons (eVar 2) aNil)) (eOp oPow (eC (.int 10)) (eC (.int 18)))) aNil))) (aCons (eVar 3) (aCons (eC (.int 0)) aNil)))))))
noncomputable def F__law_box (ns : List Int) : Fn := nf (fnV 4 (g__law_box ns))
noncomputable def g__law_take : EvS :=
    (sSeq (sIf (tVal (eOp oGt (eOp oIx (eVar 0) (eC (.int 0))) (eC (.int 0)))) (sSeq (sSet 2 (eOp oMod (eOp oIx (eVar 0) (eC (.int 0))) (eVar 1)))
    (sSeq (sPut (eOp oDiv (eOp oIx (eVar 0) (eC (.int 0))) (eVar 1)) (eVar 0) (eC (.int 0)))
    (sRet (eVar 2)))) sNil)
    (sSeq (sPut (eOp oAdd (eOp oIx (eVar 0) (eC (.int 2))) (eC (.int 1))) (eVar 0) (eC (.int 2)))
    (sSeq (sSet 3 (eLst (aCons (eC (.int 2147483647)) (aCons (eC (.int 2147483629)) (aCons (eC (.int 2147483587)) (aCons (eC (.int 2147483579)) (aCons (eC (.int 2147483563)) (aCons (eC (.int 2147483549)) (aCons (eC (.int 2147483543)) aNil)))))))))
    (sSeq (sSet 4 (eOp oIx (eVar 3) (eOp oMod (eOp oIx (eVar 0) (eC (.int 2))) (eC (.int 7)))))
    (sSeq (sSet 5 (eOp oMod (eOp oPow (eOp oAdd (eOp oIx (eVar 0) (eC (.int 1))) (eOp oMul (eC (.int 7919)) (eOp oIx (eVar 0) (eC (.int 2))))) (eC (.int 5))) (eVar 4)))
    (sRet (eOp oMod (eOp oDiv (eOp oMod (eOp oMul (eVar 5) (eOp oAdd (eOp oMod (eVar 5) (eC (.int 1009))) (eOp oIx (eVar 0) (eC (.int 2))))) (eVar 4)) (eC (.int 7))) (eVar 1))))))))
noncomputable def F__law_take : Fn := nf (fnV 6 (g__law_take))
noncomputable def g__law_of : EvS :=
    (sRet (eOp oIx (eVar 1) (eDef 2 (F__law_take) (aCons (eVar 0) (aCons (eCall fLen (aCons (eVar 1) aNil)) aNil)))))
noncomputable def F__law_of : Fn := nf (fnV 2 (g__law_of))
end K53
namespace K51
open PySem PySem.Spec PyProof.Rows L2 Sa Va
noncomputable def g__law_table : EvS :=
    (sSeq (sSet 3 (eOp oAddG (eC (.int 1)) (eDef 2 (K53.F__law_take) (aCons (eVar 0) (aCons (eVar 1) aNil)))))
    (sSeq (sSet 4 (eCall fTuple (aCons (eLc (iRange1 (aCons (eOp oAddG (eC (.int 1)) (eDef 2 (K53.F__law_take) (aCons (eVar 0) (aCons (eC (.int 3)) aNil)))) aNil)) (gN 10) tTrue (eDef 2 (K53.F__law_take) (aCons (eVar 0) (aCons (eVar 3) aNil))) [10]) aNil)))
    (sSeq (sSet 5 (eCall fTuple (aCons (eLc (iRange1 (aCons (eVar 3) aNil)) (gN 10) tTrue (eOp oEq (eDef 2 (K53.F__law_take) (aCons (eVar 0) (aCons (eC (.int 2)) aNil))) (eC (.int 1))) [10]) aNil)))
    (sSeq (sSet 6 (eLst aNil))
    (sSeq (sFor (iRange1 (aCons (eVar 3) aNil)) (gN 7) (sFor (iRange1 (aCons (eVar 3) aNil)) (gN 8) (sSeq (sSet 9 (eIf (tVal (eOp oEq (eDef 2 (K53.F__law_take) (aCons (eVar 0) (aCons (eVar 2) aNil))) (eC (.int 0)))) (eTup (aCons (eDef 2 (K53.F__law_take) (aCons (eVar 0) (aCons (eVar 3) aNil))) (aCons (eDef 2 (K53.F__law_take) (aCons (eVar 0) (aCons (eVar 3) aNil))) aNil))) (eTup (aCons (eVar 7) (aCons (eVar 8) aNil)))))
    (sExpr (sExt (eVar 6) (eOp oRep (eLst (aCons (eOp oAddG (eTup (aCons (eVar 7) (aCons (eVar 8) aNil))) (eVar 9)) aNil)) (eCall fInt (aCons (eOp oNe (eVar 9) (eTup (aCons (eVar 7) (aCons (eVar 8) aNil)))) aNil))))))))
    (sRet (eTup (aCons (eC (.str "table")) (aCons (eVar 3) (aCons (eVar 4) (aCons (eVar 5) (aCons (eCall fTuple (aCons (eVar 6) aNil)) aNil))))))))))))
noncomputable def F__law_table : Fn := nf (fnV 11 (g__law_table))
noncomputable def g__law_wide : EvS :=
    (sSeq (sSet 2 eDict0)
    (sSeq (sFor (iRange1 (aCons (eDef 2 (K53.F__law_take) (aCons (eVar 0) (aCons (eC (.int 9)) aNil))) aNil)) (gN 3) (sSeq (sSet 4 (eTup (aCons (eDef 2 (K53.F__law_take) (aCons (eVar 0) (aCons (eVar 1) aNil))) (aCons (eDef 2 (K53.F__law_take) (aCons (eVar 0) (aCons (eVar 1) aNil))) aNil))))
    (sSeq (sSet 5 (eTup (aCons (eDef 2 (K53.F__law_take) (aCons (eVar 0) (aCons (eVar 1) aNil))) (aCons (eDef 2 (K53.F__law_take) (aCons (eVar 0) (aCons (eVar 1) aNil))) aNil))))
    (sSeq (sSet 5 (eIf (tVal (eOp oEq (eDef 2 (K53.F__law_take) (aCons (eVar 0) (aCons (eC (.int 3)) aNil))) (eC (.int 0)))) (eRev (eVar 4)) (eVar 5)))
    (sIf (tVal (eOp oNe (eVar 5) (eVar 4))) (sPutD (eVar 5) (eVar 2) (eVar 4)) sNil)))))
    (sSeq (sSet 6 (eCall fTuple (aCons (eLc (iSeq (eCall fSortK (aCons (eVar 2) aNil))) (gN 4) tTrue (eOp oAddG (eVar 4) (eOp oIxD (eVar 2) (eVar 4))) [4]) aNil)))
    (sRet (eTup (aCons (eC (.str "table")) (aCons (eVar 1) (aCons (eTup (aCons (eC (.int 0)) (aCons (eOp oSub (eVar 1) (eC (.int 1))) aNil))) (aCons (eOp oAddG (eOp oRepT0 (eTup (aCons (eC (.bool false)) aNil)) (eOp oSub (eVar 1) (eC (.int 1)))) (eTup (aCons (eC (.bool true)) aNil))) (aCons (eVar 6) aNil))))))))))
noncomputable def F__law_wide : Fn := nf (fnV 7 (g__law_wide))
noncomputable def g__law_odd : EvS :=
    (sSeq (sSet 2 (eLst (aCons (eC .none) (aCons (eC (.bool true)) (aCons (eC (.bool false)) (aCons (eC (.int 0)) (aCons (eC (.int 1)) (aCons (eUn oNeg (eC (.int 1))) (aCons (eC (.int 60)) (aCons (eC (.int 61)) (aCons (eC (.str "")) (aCons (eC (.str "table")) (aCons (eTup aNil) (aCons (eLst aNil) (aCons eDict0 (aCons (eTup (aCons (eTup aNil) aNil)) (aCons (eTup (aCons (eC (.int 0)) (aCons (eC (.int 0)) (aCons (eC (.int 0)) (aCons (eC (.int 1)) aNil))))) (aCons (eTup (aCons (eC (.int 1)) (aCons (eC (.int 0)) (aCons (eC (.int 0)) (aCons (eC (.int 1)) aNil))))) aNil))))))))))))))))))
    (sSeq (sIf (tVal (eIsi "tuple" (eVar 1))) (sSet 2 (eOp oCat (eVar 2) (eOp oRep (eLst (aCons (eCall fList (aCons (eVar 1) aNil)) (aCons (eOp oAddG (eVar 1) (eSlT (some (-1)) none (eVar 1))) (aCons (eSlT none (some (-1)) (eVar 1)) (aCons (eRev (eVar 1)) (aCons (eOp oAddG (eSlT (some 1) none (eVar 1)) (eSlT none (some 1) (eVar 1))) (aCons (eTup (aCons (eVar 1) aNil)) aNil))))))) (eC (.int 3))))) sNil)
    (sSeq (sIf (tVal (eIsi "int" (eVar 1))) (sSet 2 (eOp oCat (eVar 2) (eOp oRep (eLst (aCons (eOp oAddN (eVar 1) (eC (.int 1))) (aCons (eOp oSubN (eVar 1) (eC (.int 1))) (aCons (eOp oEqN (eVar 1) (eC (.int 1))) (aCons (eCall fStrN (aCons (eVar 1) aNil)) (aCons (eLst (aCons (eVar 1) aNil)) aNil)))))) (eC (.int 3))))) sNil)
    (sRet (eDef 2 (K53.F__law_of) (aCons (eVar 0) (aCons (eVar 2) aNil)))))))
noncomputable def F__law_odd : Fn := nf (fnV 3 (g__law_odd))
noncomputable def g__law_bent (self : Fn) : EvS :=
    (sSeq (sIf (tAndE (tVal (eIsi "tuple" (eVar 1))) (tAndE (tVal (eOp oNeE (eVar 1) (eTup aNil))) (tVal (eOp oGt (eDef 2 (K53.F__law_take) (aCons (eVar 0) (aCons (eC (.int 5)) aNil))) (eC (.int 0)))))) (sSeq (sSet 2 (eDef 2 (K53.F__law_take) (aCons (eVar 0) (aCons (eCall fLen (aCons (eVar 1) aNil)) aNil))))
    (sRet (eOp oAddG (eOp oAddG (eSlTv pN (pE (eVar 2)) (eVar 1)) (eTup (aCons (eDef 2 self (aCons (eVar 0) (aCons (eOp oIx (eVar 1) (eVar 2)) aNil))) aNil))) (eSlTv (pE (eOp oAddG (eVar 2) (eC (.int 1)))) pN (eVar 1))))) sNil)
    (sRet (eDef 2 (F__law_odd) (aCons (eVar 0) (aCons (eVar 1) aNil)))))
noncomputable def F__law_bent : Nat -> Fn
  | 0 => fun _ _ => none
  | k + 1 => nf (fnV 3 (g__law_bent (F__law_bent k)))
noncomputable def g_is_whole : EvS :=
    (sRet (eAnd (eIsi "int" (eVar 0)) (eNot (eIsi "bool" (eVar 0)))))
noncomputable def F_is_whole : Fn := nf (fnV 1 (g_is_whole))
noncomputable def g_is_whole_within : EvS :=
    (sRet (eAnd (eDef 1 (F_is_whole) (aCons (eVar 0) aNil)) (eCh oLe oLe (eVar 1) (eVar 0) (eVar 2))))
noncomputable def F_is_whole_within : Fn := nf (fnV 3 (g_is_whole_within))
noncomputable def g_are_states : EvS :=
    (sRet (eAnd (eIsi "tuple" (eVar 1)) (eAllX true (iSeq (eVar 1)) (gN 2) tTrue (eDef 3 (F_is_whole_within) (aCons (eVar 2) (aCons (eC (.int 0)) (aCons (eOp oSub (eVar 0) (eC (.int 1))) aNil)))) [2])))
noncomputable def F_are_states : Fn := nf (fnV 3 (g_are_states))
noncomputable def g_is_firsts : EvS :=
    (sRet (eAnd (eDef 2 (F_are_states) (aCons (eVar 0) (aCons (eVar 1) aNil))) (eCh oLe oLe (eC (.int 1)) (eCall fLen (aCons (eVar 1) aNil)) (eC (.int 6)))))
noncomputable def F_is_firsts : Fn := nf (fnV 2 (g_is_firsts))
noncomputable def g_is_words : EvS :=
    (sRet (eAnd (eDef 2 (Pg.F_is_tuple_of) (aCons (eVar 1) (aCons (eVar 0) aNil))) (eAllX true (iSeq (eVar 1)) (gN 2) tTrue (eIsi "bool" (eVar 2)) [2])))
noncomputable def F_is_words : Fn := nf (fnV 3 (g_is_words))
noncomputable def g_is_table_row : EvS :=
    (sRet (eAnd (eDef 2 (Pg.F_is_tuple_of) (aCons (eVar 1) (aCons (eC (.int 4)) aNil))) (eAnd (eDef 2 (F_are_states) (aCons (eVar 0) (aCons (eVar 1) aNil))) (eOp oNe (eSlT none (some 2) (eVar 1)) (eSlT (some 2) none (eVar 1))))))
noncomputable def F_is_table_row : Fn := nf (fnV 2 (g_is_table_row))
noncomputable def g_is_table_rows : EvS :=
    (sSeq (sIf (tOrE (tNotE (tVal (eIsi "tuple" (eVar 1)))) (tNotE (tVal (eAllX true (iSeq (eVar 1)) (gN 3) tTrue (eDef 2 (F_is_table_row) (aCons (eVar 0) (aCons (eVar 3) aNil))) [3])))) (sRet (eC (.bool false))) sNil)
    (sRet (eAllX true (iRange2 (aCons (eC (.int 1)) (aCons (eCall fLen (aCons (eVar 1) aNil)) aNil))) (gN 2) tTrue (eOp oLtD (eSlT none (some 2) (eOp oIx (eVar 1) (eOp oSub (eVar 2) (eC (.int 1))))) (eSlT none (some 2) (eOp oIx (eVar 1) (eVar 2)))) [2])))
noncomputable def F_is_table_rows : Fn := nf (fnV 4 (g_is_table_rows))
noncomputable def g_is_table : EvS :=
    (sSeq (sIf (tOrE (tNotE (tVal (eDef 3 (Pg.F_is_headed) (aCons (eVar 0) (aCons (eC (.str "table")) (aCons (eC (.int 5)) aNil)))))) (tNotE (tVal (eDef 3 (F_is_whole_within) (aCons (eOp oIx (eVar 0) (eC (.int 1))) (aCons (eC (.int 1)) (aCons (eC (.int 60)) aNil))))))) (sRet (eC (.bool false))) sNil)
    (sSeq (sSet 1 (eOp oIx (eVar 0) (eC (.int 1))))
    (sRet (eAnd (eDef 2 (F_is_firsts) (aCons (eVar 1) (aCons (eOp oIx (eVar 0) (eC (.int 2))) aNil))) (eAnd (eDef 2 (F_is_words) (aCons (eVar 1) (aCons (eOp oIx (eVar 0) (eC (.int 3))) aNil))) (eDef 2 (F_is_table_rows) (aCons (eVar 1) (aCons (eOp oIx (eVar 0) (eC (.int 4))) aNil))))))))
noncomputable def F_is_table : Fn := nf (fnV 2 (g_is_table))
noncomputable def g__law_is_number : EvS :=
    (sRet (eAnd (eIsi "int" (eVar 0)) (eAnd (eNot (eIsi "bool" (eVar 0))) (eCh oLe oLt (eC (.int 0)) (eVar 0) (eVar 1)))))
noncomputable def F__law_is_number : Fn := nf (fnV 2 (g__law_is_number))
noncomputable def g__law_are_rows : EvS :=
    (sSeq (sIf (tNotE (tVal (eIsi "tuple" (eVar 0)))) (sRet (eC (.bool false))) sNil)
    (sSeq (sFor (iSeq (eVar 0)) (gN 2) (sSeq (sIf (tOrE (tNotE (tVal (eIsi "tuple" (eVar 2)))) (tOrE (tVal (eOp oNe (eCall fLen (aCons (eVar 2) aNil)) (eC (.int 4)))) (tNotE (tVal (eCall fAll (aCons (eLc (iSeq (eVar 2)) (gN 3) tTrue (eDef 2 (F__law_is_number) (aCons (eVar 3) (aCons (eVar 1) aNil))) [3]) aNil)))))) (sRet (eC (.bool false))) sNil)
    (sIf (tVal (eOp oEq (eSlT none (some 2) (eVar 2)) (eSlT (some 2) none (eVar 2)))) (sRet (eC (.bool false))) sNil)))
    (sRet (eCall fAll (aCons (eLc (iZip2U (aCons (eVar 0) (aCons (eSlT (some 1) none (eVar 0)) aNil))) (gT 2 (gsC (gN 3) (gsC (gN 4) gs0))) tTrue (eOp oLtD (eSlT none (some 2) (eVar 3)) (eSlT none (some 2) (eVar 4))) [3, 4]) aNil)))))
noncomputable def F__law_are_rows : Fn := nf (fnV 5 (g__law_are_rows))
noncomputable def g__law_is_one : EvS :=
    (sSeq (sIf (tOrE (tNotE (tVal (eIsi "tuple" (eVar 0)))) (tOrE (tVal (eOp oNe (eCall fLen (aCons (eVar 0) aNil)) (eC (.int 5)))) (tOrE (tNotE (tVal (eIsi "str" (eOp oIx (eVar 0) (eC (.int 0)))))) (tVal (eOp oNe (eOp oIx (eVar 0) (eC (.int 0))) (eC (.str "table"))))))) (sRet (eC (.bool false))) sNil)
    (sSeq (sAsg (eVar 0) (gT 5 (gsC (gN 1) (gsC (gN 2) (gsC (gN 3) (gsC (gN 4) (gsC (gN 5) gs0)))))))
    (sSeq (sIf (tOrE (tNotE (tVal (eDef 2 (F__law_is_number) (aCons (eVar 2) (aCons (eC (.int 61)) aNil))))) (tOrE (tVal (eOp oLt (eVar 2) (eC (.int 1)))) (tOrE (tNotE (tVal (eIsi "tuple" (eVar 3)))) (tNotE (tVal (eCh oLt oLt (eC (.int 0)) (eCall fLen (aCons (eVar 3) aNil)) (eC (.int 7)))))))) (sRet (eC (.bool false))) sNil)
    (sSeq (sIf (tOrE (tNotE (tVal (eCall fAll (aCons (eLc (iSeq (eVar 3)) (gN 6) tTrue (eDef 2 (F__law_is_number) (aCons (eVar 6) (aCons (eVar 2) aNil))) [6]) aNil)))) (tNotE (tVal (eIsi "tuple" (eVar 4))))) (sRet (eC (.bool false))) sNil)
    (sRet (eAnd (eOp oEq (eCall fLen (aCons (eVar 4) aNil)) (eVar 2)) (eAnd (eCall fAll (aCons (eLc (iSeq (eVar 4)) (gN 6) tTrue (eIsi "bool" (eVar 6)) [6]) aNil)) (eDef 2 (F__law_are_rows) (aCons (eVar 5) (aCons (eVar 2) aNil))))))))))
noncomputable def F__law_is_one : Fn := nf (fnV 7 (g__law_is_one))
noncomputable def g_law (ns : List Int) : EvS :=
    (sSeq (sFor (iRange1 (aCons (eOp oAddG (eC (.int 1)) (eCall fMin2 (aCons (eC (.int 3)) (aCons (eCall (fLenS ns) (aCons (eVar 0) aNil)) aNil)))) aNil)) (gN 1) (sSeq (sSet 2 (eDef 2 (K53.F__law_box ns) (aCons (eVar 0) (aCons (eVar 1) aNil))))
    (sSeq (sSet 3 (eLst (aCons (eDef 3 (F__law_table) (aCons (eVar 2) (aCons (eC (.int 5)) (aCons (eC (.int 2)) aNil)))) (aCons (eDef 2 (F__law_wide) (aCons (eVar 2) (aCons (eC (.int 60)) aNil))) (aCons (eDef 2 (F__law_wide) (aCons (eVar 2) (aCons (eC (.int 61)) aNil))) aNil)))))
    (sSeq (sExpr (sApp (eVar 3) (eDef 2 (F__law_wide) (aCons (eVar 2) (aCons (eOp oAddG (eC (.int 1)) (eDef 2 (K53.F__law_take) (aCons (eVar 2) (aCons (eC (.int 60)) aNil)))) aNil)))))
    (sSeq (sExpr (sApp (eVar 3) (eOp oAddG (eOp oAddG (eSlT none (some 2) (eOp oIx (eVar 3) (eC (.int 0)))) (eTup (aCons (eOp oRepT0 (eTup (aCons (eC (.int 0)) aNil)) (eDef 2 (K53.F__law_of) (aCons (eVar 2) (aCons (eLst (aCons (eC (.int 0)) (aCons (eC (.int 1)) (aCons (eC (.int 6)) (aCons (eC (.int 7)) aNil))))) aNil)))) aNil))) (eSlT (some 3) none (eOp oIx (eVar 3) (eC (.int 0)))))))
    (sSeq (sFor (iSeq (eCall fList (aCons (eVar 3) aNil))) (gN 4) (sFor (iRange1 (aCons (eC (.int 6)) aNil)) (gN 5) (sSeq (sSet 6 (eDef 2 (F__law_bent 7) (aCons (eVar 2) (aCons (eVar 4) aNil))))
    (sExpr (sApp (eVar 3) (eIf (tVal (eOp oEq (eDef 2 (K53.F__law_take) (aCons (eVar 2) (aCons (eC (.int 3)) aNil))) (eC (.int 0)))) (eDef 2 (F__law_bent 7) (aCons (eVar 2) (aCons (eVar 6) aNil))) (eVar 6)))))))
    (sFor (iSeq (eOp oCat (eVar 3) (eLst (aCons (eC .none) (aCons (eC (.bool true)) (aCons (eC (.int 7)) (aCons (eC (.str "table")) (aCons (eTup aNil) (aCons (eLst aNil) (aCons eDict0 (aCons (eTup (aCons (eC (.str "table")) aNil)) (aCons (eCall fList (aCons (eOp oIx (eVar 3) (eC (.int 0))) aNil)) (aCons (eTup (aCons (eOp oIx (eVar 3) (eC (.int 0))) aNil)) aNil))))))))))))) (gN 7) (sSeq (sPar 8 9 (aCons (eCall fRepW (aCons (eVar 7) aNil)) (aCons (eDef 1 (F_is_table) (aCons (eVar 7) aNil)) aNil)))
    (sIf (tOrE (tNotE (tVal (eIsi "bool" (eVar 9)))) (tOrE (tVal (eOp oNe (eVar 9) (eDef 1 (F__law_is_one) (aCons (eVar 7) aNil)))) (tVal (eOp oNe (eCall fRepW (aCons (eVar 7) aNil)) (eVar 8))))) (sRet (eC (.bool false))) sNil)))))))))
    (sRet (eC (.bool true))))
noncomputable def F_law (ns : List Int) : Fn := nf (fnV 10 (g_law ns))
end K51
namespace Ls
open PySem PySem.Spec PyProof.Rows L2 Sa Va Pg Lw
variable {M : Mem}
theorem rowOf_len (ls : List Simple) : (rowOf ls).length <= ls.length := nodup_le (rowOf_nodup _) fun S hS => (rowOf_mem _ S).mp hS
theorem Found.row {F ls ms : List Simple} {k : Nat} (f : Found F (ls ++ rowOf ms) k) : Found F (ls ++ ms) k :=
  ⟨f.nd, fun S => by rw [f.mem]; simp [rowOf_mem], f.good, by have := f.few; have := rowOf_len ms; simp at *; omega⟩
def OutI (y0 : Option W) (M0 : Mem) (ls : List Simple) (k : Nat) (ρ : Ev) (M : Mem) : Prop := ∃ J i v w F, M = M0 ++ J /\ ρ = [y0, some (.obj i), v, w] /\ M[i]? = some (lstS F) /\ Found F ls k
theorem outer {self : Fn} {y0 : Option W} {M0 : Mem} {k : Nat} {ρ : Ev} (h6 : k <= 6) (ys : List Say) (hs : ∀ y ∈ ys, ∀ M, self [.d (yD y)] M = some (.obj M.length, M ++ [lstS (rowOf y.leaves)])) (g : ∀ y ∈ ys, ∀ S ∈ y.leaves, GoodS S k) (few : (ys.flatMap Say.leaves).length <= 500) (h0 : OutI y0 M0 [] k ρ M) :
    Ok (forL [] (gN 2) (sFor (iSeq (eDef 1 self (aCons (eVar 2) aNil))) (gN 3) insB) (ys.map fun y => W.d (yD y)) ρ M) fun o => ∃ ρ' M', o = .nx ρ' M' /\ OutI y0 M0 (ys.flatMap Say.leaves) k ρ' M' := by
  refine Ok.mono (for_ok (items0 := ys.map fun y => W.d (yD y)) (fun j ρ M => OutI y0 M0 ((ys.take j).flatMap Say.leaves) k ρ M) (fun ρ M => OutI y0 M0 (ys.flatMap Say.leaves) k ρ M) (fun _ _ => False) (fun j ρ M _ h => by simp) (fun ρ M h => ?_) (fun j w ρ M hw h => ?_) _ 0 _ _ rfl (Nat.zero_le _) (by simpa using h0)) fun o ho => ?_
  · simpa using h
  · rw [List.getElem?_map] at hw
    obtain ⟨y, hy, rfl⟩ := Option.map_eq_some_iff.mp hw
    have my := List.mem_of_getElem? hy
    obtain ⟨J, i, v, w, F, rfl, rfl, hi, f⟩ := h
    have e := hs y my (M0 ++ J)
    have tk : (ys.take (j + 1)).flatMap Say.leaves = (ys.take j).flatMap Say.leaves ++ y.leaves := by rw [List.take_succ, hy]; simp
    have le : ((ys.take j).flatMap Say.leaves).length + y.leaves.length <= 500 := by
      have : ys = ys.take j ++ y :: ys.drop (j + 1) := by
        obtain ⟨hj, ej⟩ := List.getElem?_eq_some_iff.mp hy
        rw [<- ej, List.getElem_cons_drop, List.take_append_drop]
      rw [this] at few
      simp only [List.flatMap_append, List.flatMap_cons, List.length_append] at few
      omega
    have rl := rowOf_len y.leaves
    have inn := inner (M := (M0 ++ J) ++ [lstS (rowOf y.leaves)]) (y0 := y0) (z0 := some (.d (yD y))) (M0 := (M0 ++ J) ++ [lstS (rowOf y.leaves)]) (ls := (ys.take j).flatMap Say.leaves) (Ts := rowOf y.leaves) (l := (M0 ++ J).length) (ρ := [y0, some (.obj i), some (.d (yD y)), w]) h6 (by simp) (fun S hS => g y my S ((rowOf_mem _ S).mp hS)) (by omega) ⟨[], i, w, F, by simp, rfl, get_old hi, f⟩
    refine ⟨_, rfl, ?_⟩
    have fo : (sFor (iSeq (eDef 1 self (aCons (eVar 2) aNil))) (gN 3) insB) [y0, some (.obj i), some (.d (yD y)), w] (M0 ++ J) = forL [((M0 ++ J).length, .lst ((rowOf y.leaves).map fun S => W.d (sD S)))] (gN 3) insB ((rowOf y.leaves).map fun S => W.d (sD S)) [y0, some (.obj i), some (.d (yD y)), w] ((M0 ++ J) ++ [lstS (rowOf y.leaves)]) := by
      simp only [sFor, iSeq, eDef, aCons, aNil, eVar]
      simp [e]
    show Ok ((sFor (iSeq (eDef 1 self (aCons (eVar 2) aNil))) (gN 3) insB) [y0, some (.obj i), some (.d (yD y)), w] (M0 ++ J)) _
    rw [fo]
    refine Ok.mono inn fun o ⟨ρ', M', eo, J', i', w', F', eM, eρ, hi', f'⟩ => ?_
    subst eo
    show OutI _ _ _ _ _ _
    rw [tk]
    exact ⟨J ++ [lstS (rowOf y.leaves)] ++ J', i', _, w', F', by rw [eM]; simp, eρ, hi', f'.row⟩
  · cases o with
    | nx ρ M' => exact ⟨ρ, M', rfl, ho⟩
    | bk ρ M' => exact ho.elim
    | ct ρ M' => exact ho.elim
    | rt w M' => exact ho.elim
end Ls
namespace Ls
open PySem PySem.Spec PyProof.Rows L2 Sa Va Pg Lw
end Ls
namespace Va
open PySem PySem.Spec PyProof.Rows L2 Sa Gn
open Lx (HandX)
mutual
/-- no list and no dict in it -/
def plainD : PyData -> Bool
  | .list _ => false
  | .dict _ => false
  | .tuple ds => plainA ds
  | _ => true
def plainA : List PyData -> Bool
  | [] => true
  | d :: ds => plainD d && plainA ds
end
mutual
def deepV (av : Nat -> Bool) (M : Mem) : Nat -> W -> Option PyData
  | _, .d x => if plainD x = true then some x else none
  | n + 1, .obj i => if av i = true then none else match M[i]? with
    | some (.lst ws) => (deepVs av M n ws).map PyData.list
    | some (.dic es _) => some (.dict es)
    | _ => none
  | n + 1, .pack ws => if (datas ws).isNone = true then (deepVs av M n ws).map PyData.tuple else none
  | _, _ => none
def deepVs (av : Nat -> Bool) (M : Mem) : Nat -> List W -> Option (List PyData)
  | _, [] => some []
  | n, w :: ws => (deepV av M n w).bind fun d => (deepVs av M n ws).map fun ds => d :: ds
end
section
variable {av : Nat -> Bool} {M M' : Mem}
mutual
theorem deepV_to (agr : ∀ i, av i = false -> ∀ mo, M[i]? = some mo -> M'[i]? = some mo) : ∀ (k m : Nat) (w : W) (d : PyData), k <= m -> deepV av M k w = some d -> deepV av M' m w = some d
  | k, m, .d x, d, le, e => by cases k <;> cases m <;> simpa only [deepV] using e
  | k + 1, m + 1, .obj i, d, le, e => by
    simp only [deepV] at e ⊢
    by_cases na : av i = true
    · rw [if_pos na] at e; cases e
    rw [if_neg na] at e ⊢
    cases hm : M[i]? with
    | none => rw [hm] at e; cases e
    | some mo =>
      rw [hm] at e
      rw [agr i (by simpa using na) mo hm]
      cases mo with
      | lst ws =>
        simp only [Option.map_eq_some_iff] at e ⊢
        obtain ⟨ds, e, rfl⟩ := e
        exact ⟨ds, deepVs_to agr k m ws ds (by omega) e, rfl⟩
      | dic es n => exact e
      | kset ds => cases e
      | pot es => cases e
  | k + 1, m + 1, .pack ws, d, le, e => by
    simp only [deepV] at e ⊢
    by_cases nn : (datas ws).isNone = true
    · rw [if_pos nn, Option.map_eq_some_iff] at e
      rw [if_pos nn, Option.map_eq_some_iff]
      obtain ⟨ds, e, rfl⟩ := e
      exact ⟨ds, deepVs_to agr k m ws ds (by omega) e, rfl⟩
    · rw [if_neg nn] at e; cases e
  | 0, m, .obj i, d, le, e => by simp [deepV] at e
  | 0, m, .pack ws, d, le, e => by simp [deepV] at e
  | 0, m, .scr, d, le, e => by simp [deepV] at e
  | 0, m, .fn, d, le, e => by simp [deepV] at e
  | k + 1, m, .scr, d, le, e => by simp [deepV] at e
  | k + 1, m, .fn, d, le, e => by simp [deepV] at e
  | k + 1, 0, .obj i, d, le, e => by omega
  | k + 1, 0, .pack ws, d, le, e => by omega
theorem deepVs_to (agr : ∀ i, av i = false -> ∀ mo, M[i]? = some mo -> M'[i]? = some mo) : ∀ (k m : Nat) (ws : List W) (ds : List PyData), k <= m -> deepVs av M k ws = some ds -> deepVs av M' m ws = some ds
  | k, m, [], ds, le, e => by simpa only [deepVs] using e
  | k, m, w :: ws, ds, le, e => by
    simp only [deepVs] at e ⊢
    obtain ⟨d, e1, e3⟩ := bsome e
    rw [Option.map_eq_some_iff] at e3
    obtain ⟨ds, e2, rfl⟩ := e3
    rw [deepV_to agr k m w d le e1, deepVs_to agr k m ws ds le e2]
    rfl
end
mutual
theorem deepV_R : ∀ (k : Nat) (w : W) (d : PyData), deepV av M k w = some d -> deepR M k w = some d
  | k, .d x, d, e => by cases k <;> (simp only [deepV] at e; split at e <;> first | (cases e; simp only [deepR]) | cases e)
  | k + 1, .obj i, d, e => by
    simp only [deepV] at e
    simp only [deepR]
    by_cases na : av i = true
    · rw [if_pos na] at e; cases e
    rw [if_neg na] at e
    cases hm : M[i]? with
    | none => rw [hm] at e; cases e
    | some mo =>
      rw [hm] at e
      cases mo with
      | lst ws =>
        simp only [Option.map_eq_some_iff] at e ⊢
        obtain ⟨ds, e, rfl⟩ := e
        exact ⟨ds, deepVs_R k ws ds e, rfl⟩
      | dic es n => exact e
      | kset ds => cases e
      | pot es => cases e
  | k + 1, .pack ws, d, e => by
    simp only [deepV] at e
    by_cases nn : (datas ws).isNone = true
    · rw [if_pos nn, Option.map_eq_some_iff] at e
      simp only [deepR, Option.map_eq_some_iff]
      obtain ⟨ds, e, rfl⟩ := e
      exact ⟨ds, deepVs_R k ws ds e, rfl⟩
    · rw [if_neg nn] at e; cases e
  | 0, .obj i, d, e => by simp [deepV] at e
  | 0, .pack ws, d, e => by simp [deepV] at e
  | 0, .scr, d, e => by simp [deepV] at e
  | 0, .fn, d, e => by simp [deepV] at e
  | k + 1, .scr, d, e => by simp [deepV] at e
  | k + 1, .fn, d, e => by simp [deepV] at e
theorem deepVs_R : ∀ (k : Nat) (ws : List W) (ds : List PyData), deepVs av M k ws = some ds -> deepRs M k ws = some ds
  | k, [], ds, e => by simpa only [deepVs, deepRs] using e
  | k, w :: ws, ds, e => by
    simp only [deepVs] at e
    simp only [deepRs]
    obtain ⟨d, e1, e3⟩ := bsome e
    rw [Option.map_eq_some_iff] at e3
    obtain ⟨ds, e2, rfl⟩ := e3
    rw [deepV_R k w d e1, deepVs_R k ws ds e2]
    rfl
end
mutual
theorem deepR_le : ∀ (k m : Nat) (w : W) (d : PyData), k <= m -> deepR M k w = some d -> deepR M m w = some d
  | k, m, .d x, d, le, e => by cases k <;> cases m <;> simpa only [deepR] using e
  | k + 1, m + 1, .obj i, d, le, e => by
    simp only [deepR] at e ⊢
    cases hm : M[i]? with
    | none => rw [hm] at e; cases e
    | some mo =>
      rw [hm] at e
      cases mo with
      | lst ws =>
        simp only [Option.map_eq_some_iff] at e ⊢
        obtain ⟨ds, e, rfl⟩ := e
        exact ⟨ds, deepRs_le k m ws ds (by omega) e, rfl⟩
      | dic es n => exact e
      | kset ds => cases e
      | pot es => cases e
  | k + 1, m + 1, .pack ws, d, le, e => by
    simp only [deepR, Option.map_eq_some_iff] at e ⊢
    obtain ⟨ds, e, rfl⟩ := e
    exact ⟨ds, deepRs_le k m ws ds (by omega) e, rfl⟩
  | 0, m, .obj i, d, le, e => by simp [deepR] at e
  | 0, m, .pack ws, d, le, e => by simp [deepR] at e
  | 0, m, .scr, d, le, e => by simp [deepR] at e
  | 0, m, .fn, d, le, e => by simp [deepR] at e
  | k + 1, m, .scr, d, le, e => by simp [deepR] at e
  | k + 1, m, .fn, d, le, e => by simp [deepR] at e
  | k + 1, 0, .obj i, d, le, e => by omega
  | k + 1, 0, .pack ws, d, le, e => by omega
theorem deepRs_le : ∀ (k m : Nat) (ws : List W) (ds : List PyData), k <= m -> deepRs M k ws = some ds -> deepRs M m ws = some ds
  | k, m, [], ds, le, e => by simpa only [deepRs] using e
  | k, m, w :: ws, ds, le, e => by
    simp only [deepRs] at e ⊢
    obtain ⟨d, e1, e3⟩ := bsome e
    rw [Option.map_eq_some_iff] at e3
    obtain ⟨ds, e2, rfl⟩ := e3
    rw [deepR_le k m w d le e1, deepRs_le k m ws ds le e2]
    rfl
end
theorem deepR_up {k m : Nat} {w : W} {d : PyData} (le : k <= m) (e : deepR M k w = some d) : deepR M m w = some d := deepR_le k m w d le e
mutual
def txt : PyData -> Nat
  | .tuple xs => txts xs + 3
  | .list xs => txts xs + 3
  | .none => 4
  | .bool _ => 5
  | .int i => (PyData.int i).shown.length
  | .str x => (PyData.str x).shown.length
  | .dict kvs => (PyData.dict kvs).shown.length
def txts : List PyData -> Nat
  | [] => 0
  | d :: ds => txt d + 2 + txts ds
end
theorem textFrom_le : ∀ (ts : List Str) (k : Nat) (acc : Str), (textFrom k acc ts).length <= acc.length + piled ts
  | [], k, acc => Nat.le_add_right _ _
  | t :: r, k, acc => by
    have ih := textFrom_le r (k + 1) (acc ++ (if k > 0 then ", " else "" : String) ++ t)
    rw [strLen_append, strLen_append] at ih
    have e2 : ((if k > 0 then ", " else "" : String) : Str).length <= 2 := by split <;> decide +kernel
    show (textFrom (k + 1) _ r).length <= acc.length + (t.length + 2 + piled r)
    omega
theorem listText_len (ts : List Str) : (listText ts).length <= piled ts + 3 := by
  have h := textFrom_le ts 0 "["
  unfold listText
  rw [strLen_append]
  have e1 : (Str.ofString "[").length = 1 := rfl
  have e2 : (Str.ofString "]").length = 1 := rfl
  omega
mutual
theorem shown_txt : ∀ d : PyData, d.shown.length <= txt d
  | .tuple xs => by
    have h := piled_txts xs
    have k := tupleText_len (PyData.shownAll xs)
    simp only [PyData.shown, txt]
    omega
  | .list xs => by
    have h := piled_txts xs
    have k := listText_len (PyData.shownAll xs)
    simp only [PyData.shown, txt]
    omega
  | .none => by simp only [PyData.shown, txt]; decide +kernel
  | .bool b => by simp only [PyData.shown, txt]; cases b <;> decide +kernel
  | .int i => by simp only [txt]; exact Nat.le_refl _
  | .str x => by simp only [txt]; exact Nat.le_refl _
  | .dict kvs => by simp only [txt]; exact Nat.le_refl _
theorem piled_txts : ∀ ds : List PyData, piled (PyData.shownAll ds) <= txts ds
  | [] => by simp only [PyData.shownAll, txts]; exact Nat.le_refl _
  | d :: ds => by
    have h1 := shown_txt d
    have h2 := piled_txts ds
    simp only [PyData.shownAll, txts]
    show d.shown.length + 2 + piled (PyData.shownAll ds) <= _
    omega
end
structure Rd (av : Nat -> Bool) (M : Mem) (k : Nat) (w : W) (d : PyData) : Prop where
  e : deepV av M k w = some d
  s : d.showable = true
  p : d.depth <= k
inductive RdA (av : Nat -> Bool) (M : Mem) (k : Nat) : List W -> List PyData -> Prop
  | nil : RdA av M k [] []
  | cons {w : W} {d : PyData} {ws : List W} {ds : List PyData} : Rd av M k w d -> RdA av M k ws ds -> RdA av M k (w :: ws) (d :: ds)
section
variable {k m : Nat} {w : W} {ws us : List W} {d y : PyData} {ds es : List PyData} {n : Int}
theorem Rd.to (r : Rd av M k w d) (le : k <= m) (agr : ∀ i, av i = false -> ∀ mo, M[i]? = some mo -> M'[i]? = some mo) : Rd av M' m w d := ⟨deepV_to agr k m w d le r.e, r.s, Nat.le_trans r.p le⟩
theorem Rd.up (r : Rd av M k w d) (le : k <= m) : Rd av M m w d := r.to le fun _ _ _ z => z
theorem RdA.to (r : RdA av M k ws ds) (le : k <= m) (agr : ∀ i, av i = false -> ∀ mo, M[i]? = some mo -> M'[i]? = some mo) : RdA av M' m ws ds := by
  induction r with
  | nil => exact .nil
  | cons a _ ih => exact .cons (a.to le agr) ih
theorem RdA.length (r : RdA av M k ws ds) : ws.length = ds.length := by
  induction r with
  | nil => rfl
  | cons _ _ ih => simp [ih]
theorem RdA.append (r : RdA av M k ws ds) (q : RdA av M k us es) : RdA av M k (ws ++ us) (ds ++ es) := by
  induction r with
  | nil => exact q
  | cons a _ ih => exact .cons a ih
theorem RdA.reverse (r : RdA av M k ws ds) : RdA av M k ws.reverse ds.reverse := by
  induction r with
  | nil => exact .nil
  | cons a _ ih => rw [List.reverse_cons, List.reverse_cons]; exact ih.append (.cons a .nil)
theorem RdA.drop (r : RdA av M k ws ds) (i : Nat) : RdA av M k (ws.drop i) (ds.drop i) := by
  induction r generalizing i with
  | nil => simp; exact .nil
  | cons a q ih =>
    cases i with
    | zero => exact .cons a q
    | succ i => exact ih i
theorem RdA.take (r : RdA av M k ws ds) (i : Nat) : RdA av M k (ws.take i) (ds.take i) := by
  induction r generalizing i with
  | nil => simp; exact .nil
  | cons a q ih =>
    cases i with
    | zero => exact .nil
    | succ i => exact .cons a (ih i)
theorem RdA.cut (r : RdA av M k ws ds) (lo hi : Option Int) : RdA av M k (cutG ws lo hi) (cutG ds lo hi) := by
  unfold cutG
  rw [r.length]
  exact (r.drop _).take _
theorem RdA.get (r : RdA av M k ws ds) {i : Nat} (e : ws[i]? = some w) : ∃ d, ds[i]? = some d /\ Rd av M k w d := by
  induction r generalizing i with
  | nil => simp at e
  | cons a q ih =>
    cases i with
    | zero => simp at e; subst e; exact ⟨_, rfl, a⟩
    | succ i => exact ih (by simpa using e)
theorem RdA.mem (r : RdA av M k ws ds) (hw : w ∈ ws) : ∃ d, d ∈ ds /\ Rd av M k w d := by
  obtain ⟨i, hi⟩ := List.mem_iff_getElem?.mp hw
  obtain ⟨d, hd, q⟩ := r.get hi
  exact ⟨d, List.mem_of_getElem? hd, q⟩
theorem RdA.all (r : RdA av M k ws ds) : deepVs av M k ws = some ds /\ PyData.showableAll ds = true /\ PyData.depthAll ds <= k := by
  induction r with
  | nil => simp [deepVs, PyData.showableAll, PyData.depthAll]
  | cons a _ ih =>
    obtain ⟨i1, i2, i3⟩ := ih
    refine ⟨?_, ?_, ?_⟩
    · simp only [deepVs, a.e, i1, Option.bind_some, Option.map_some]
    · simp only [PyData.showableAll, a.s, i2, Bool.and_self]
    · have := a.p
      simp only [PyData.depthAll]
      omega
theorem RdA.of : ∀ {ws : List W} {ds : List PyData}, deepVs av M k ws = some ds -> PyData.showableAll ds = true -> PyData.depthAll ds <= k -> RdA av M k ws ds
  | [], ds, e, _, _ => by simp only [deepVs, Option.some.injEq] at e; subst e; exact .nil
  | w :: ws, ds, e, s, p => by
    simp only [deepVs] at e
    obtain ⟨d, e1, e3⟩ := bsome e
    rw [Option.map_eq_some_iff] at e3
    obtain ⟨ds, e2, rfl⟩ := e3
    simp only [PyData.showableAll, Bool.and_eq_true] at s
    simp only [PyData.depthAll] at p
    exact .cons ⟨e1, s.1, by omega⟩ (RdA.of e2 s.2 (by omega))
theorem deepV_d (pl : plainD d = true) : deepV av M k (.d d) = some d := by cases k <;> (simp only [deepV]; rw [if_pos pl])
theorem deepV_e (e : deepV av M k (.d y) = some d) : y = d /\ plainD d = true := by
  cases k <;> (simp only [deepV] at e; split at e <;> first | (rename_i c; cases e; exact ⟨rfl, c⟩) | cases e)
theorem deepVs_d : ∀ {ds : List PyData}, plainA ds = true -> deepVs av M k (ds.map W.d) = some ds
  | [], _ => by simp only [List.map_nil, deepVs]
  | d :: ds, pl => by
    simp only [plainA, Bool.and_eq_true] at pl
    simp only [List.map_cons, deepVs, deepV_d pl.1, deepVs_d pl.2, Option.bind_some, Option.map_some]
theorem Rd.dat (pl : plainD d = true) (s : d.showable = true) (p : d.depth <= k) : Rd av M k (.d d) d := ⟨deepV_d pl, s, p⟩
theorem Rd.isD (r : Rd av M k (.d y) d) : y = d /\ plainD d = true := deepV_e r.e
theorem Rd.int {i : Int} (l : i.natAbs.log2 < 1920) : Rd av M k (.d (.int i)) (.int i) := .dat rfl (by simpa [PyData.showable] using l) (Nat.zero_le _)
theorem Rd.non : Rd av M k (.d .none) .none := .dat rfl rfl (Nat.zero_le _)
theorem Rd.bool {b : Bool} : Rd av M k (.d (.bool b)) (.bool b) := .dat rfl rfl (Nat.zero_le _)
theorem Rd.str {s : Str} : Rd av M k (.d (.str s)) (.str s) := .dat rfl rfl (Nat.zero_le _)
theorem datas_rd : ∀ {ws : List W} {xs ds : List PyData}, RdA av M k ws ds -> datas ws = some xs -> xs = ds /\ plainA ds = true
  | _, _, _, .nil, e => by simp [datas] at e; exact ⟨e, rfl⟩
  | _, _, _, .cons (w := w) (ws := ws) a r, e => by
    cases w with
    | d z =>
      simp only [datas, Option.map_eq_some_iff] at e
      obtain ⟨ys, e, rfl⟩ := e
      obtain ⟨e1, p1⟩ := a.isD
      obtain ⟨e2, p2⟩ := datas_rd r e
      rw [e1, e2]
      exact ⟨rfl, by simp only [plainA, p1, p2, Bool.and_self]⟩
    | obj i => simp [datas] at e
    | scr => simp [datas] at e
    | pack us => simp [datas] at e
    | fn => simp [datas] at e
/-- a tuple of things -/
theorem RdA.tup (r : RdA av M k ws ds) : Rd av M (k + 1) (mkTup ws) (.tuple ds) := by
  obtain ⟨r1, r2, r3⟩ := r.all
  have s : (PyData.tuple ds).showable = true := by simpa [PyData.showable] using r2
  have p : (PyData.tuple ds).depth <= k + 1 := by rw [dp_tuple]; omega
  unfold mkTup
  split
  · rename_i xs e
    obtain ⟨e2, p2⟩ := datas_rd r e
    rw [e2]
    exact .dat (by simpa only [plainD] using p2) s p
  · rename_i e
    exact ⟨by simp only [deepV, e, Option.isNone_none, if_true, r1, Option.map_some], s, p⟩
/-- what is in a tuple -/
theorem Rd.un (r : Rd av M k w d) (e : tupOf w = some ws) : ∃ m ds, k = m + 1 /\ d = .tuple ds /\ RdA av M m ws ds := by
  cases w with
  | d z =>
    obtain ⟨e1, p1⟩ := r.isD
    subst e1
    obtain ⟨_, r2, r3⟩ := r
    cases z with
    | tuple ds =>
      simp only [tupOf, Option.some.injEq] at e
      subst e
      rw [dp_tuple] at r3
      obtain ⟨m, rfl⟩ : ∃ m, k = m + 1 := ⟨k - 1, by omega⟩
      refine ⟨m, ds, rfl, rfl, ?_⟩
      have s : PyData.showableAll ds = true := by simpa [PyData.showable] using r2
      have p : PyData.depthAll ds <= m := by omega
      have pl : plainA ds = true := by simpa only [plainD] using p1
      exact RdA.of (deepVs_d pl) s p
    | _ => cases e
  | pack us =>
    obtain ⟨r1, r2, r3⟩ := r
    simp only [tupOf, Option.some.injEq] at e
    subst e
    cases k with
    | zero => simp [deepV] at r1
    | succ m =>
      simp only [deepV] at r1
      split at r1
      case isFalse => cases r1
      rw [Option.map_eq_some_iff] at r1
      obtain ⟨ds, e, rfl⟩ := r1
      refine ⟨m, ds, rfl, rfl, RdA.of e (by simpa [PyData.showable] using r2) (by rw [dp_tuple] at r3; omega)⟩
  | obj i => cases e
  | scr => cases e
  | fn => cases e
theorem Rd.isTup (r : Rd av M k w (.tuple ds)) : ∃ ws, tupOf w = some ws /\ ∃ m, k = m + 1 /\ RdA av M m ws ds := by
  have key : ∃ ws, tupOf w = some ws := by
    have e := r.e
    cases w with
    | d z => obtain ⟨e1, _⟩ := r.isD; subst e1; exact ⟨_, rfl⟩
    | pack us => exact ⟨_, rfl⟩
    | obj i =>
      cases k with
      | zero => simp [deepV] at e
      | succ m =>
        simp only [deepV] at e
        split at e
        · cases e
        · split at e
          · simp at e
          · cases e
          · cases e
    | scr => cases k <;> simp [deepV] at e
    | fn => cases k <;> simp [deepV] at e
  obtain ⟨ws, hw⟩ := key
  obtain ⟨m, es, hk, he, q⟩ := r.un hw
  cases he
  exact ⟨ws, hw, m, hk, q⟩
/-- of what kind -/
def kindD : PyData -> String
  | .none => "NoneType"
  | .bool _ => "bool"
  | .int _ => "int"
  | .str _ => "str"
  | .tuple _ => "tuple"
  | .list _ => "list"
  | .dict _ => "dict"
theorem Rd.kind (r : Rd av M k w d) : kindW M w = some (kindD d) := by
  have e := r.e
  cases w with
  | d z =>
    obtain ⟨e1, p1⟩ := r.isD
    subst e1
    cases z with
    | list => cases p1
    | dict => cases p1
    | _ => rfl
  | pack us =>
    cases k with
    | zero => simp [deepV] at e
    | succ m =>
      simp only [deepV] at e
      split at e
      case isFalse => cases e
      rw [Option.map_eq_some_iff] at e
      obtain ⟨ds, _, rfl⟩ := e
      rfl
  | obj i =>
    cases k with
    | zero => simp [deepV] at e
    | succ m =>
      simp only [deepV] at e
      split at e
      · cases e
      · split at e
        · rename_i ws hm
          rw [Option.map_eq_some_iff] at e
          obtain ⟨ds, _, rfl⟩ := e
          simp only [kindW, hm, kindD]
        · rename_i es n hm
          cases e
          simp only [kindW, hm, kindD]
        · cases e
  | scr => cases k <;> simp [deepV] at e
  | fn => cases k <;> simp [deepV] at e
mutual
/-- plain data stands as such -/
theorem Rd.plain : ∀ {k : Nat} {w : W} {d : PyData}, Rd av M k w d -> plainD d = true -> w = .d d
  | k, .d z, d, r, pl => by obtain ⟨e, _⟩ := r.isD; rw [e]
  | 0, .pack us, d, r, pl => by have e := r.e; simp [deepV] at e
  | k + 1, .pack us, d, r, pl => by
    have e := r.e
    simp only [deepV] at e
    split at e
    case isFalse => cases e
    rename_i nn
    rw [Option.map_eq_some_iff] at e
    obtain ⟨ds, e, rfl⟩ := e
    have q : RdA av M k us ds := RdA.of e (by simpa [PyData.showable] using r.s) (by have := r.p; rw [dp_tuple] at this; omega)
    have := RdA.plain q (by simpa only [plainD] using pl)
    rw [this, datas_map] at nn
    cases nn
  | 0, .obj i, d, r, pl => by have e := r.e; simp [deepV] at e
  | k + 1, .obj i, d, r, pl => by
    have e := r.e
    simp only [deepV] at e
    split at e
    · cases e
    · split at e
      · rw [Option.map_eq_some_iff] at e
        obtain ⟨ds, _, rfl⟩ := e
        cases pl
      · cases e
        cases pl
      · cases e
  | 0, .scr, d, r, pl => by have e := r.e; simp [deepV] at e
  | k + 1, .scr, d, r, pl => by have e := r.e; simp [deepV] at e
  | 0, .fn, d, r, pl => by have e := r.e; simp [deepV] at e
  | k + 1, .fn, d, r, pl => by have e := r.e; simp [deepV] at e
theorem RdA.plain : ∀ {k : Nat} {ws : List W} {ds : List PyData}, RdA av M k ws ds -> plainA ds = true -> ws = ds.map W.d
  | _, _, _, .nil, _ => rfl
  | k, _, _, .cons (w := w) (d := d) (ws := ws) (ds := ds) a r, pl => by
    simp only [plainA, Bool.and_eq_true] at pl
    rw [Rd.plain a pl.1, RdA.plain r pl.2]
    rfl
end
end
end
end Va
namespace Va
open PySem PySem.Spec PyProof.Rows L2 Sa Gn
open Lx (HandX)
open Lw (Upd)
/-- longer, and the same but at the hand -/
def Ex1 (h : Nat) (M M' : Mem) : Prop := M.length <= M'.length /\ ∀ i, i < M.length -> i ≠ h -> M'[i]? = M[i]?
section
variable {av : Nat -> Bool} {M M' N M1 M2 : Mem} {k m h i : Nat} {w : W} {ws us : List W} {d : PyData} {ds es : List PyData} {n : Int}
theorem Ex1.refl : Ex1 h M M := ⟨Nat.le_refl _, fun _ _ _ => rfl⟩
theorem Ex1.trans (a : Ex1 h M M1) (b : Ex1 h M1 M2) : Ex1 h M M2 := ⟨Nat.le_trans a.1 b.1, fun i hi n => (b.2 i (Nat.lt_of_lt_of_le hi a.1) n).trans (a.2 i hi n)⟩
theorem Ex1.upd (u : Upd h M M1) : Ex1 h M M1 := ⟨by rw [u.1]; exact Nat.le_refl _, fun i _ n => u.2 i n⟩
theorem Ex1.app {J : Mem} : Ex1 h M (M ++ J) := ⟨by simp, fun i hi _ => List.getElem?_append_left hi⟩
theorem Ex1.set {o : MO} (e : Ex1 h M N) (hi : M.length <= i) : Ex1 h M (N.set i o) := ⟨by rw [List.length_set]; exact e.1, fun j hj n => by rw [List.getElem?_set_ne (by omega)]; exact e.2 j hj n⟩
theorem Ex1.at (e : Ex1 h M N) {o : MO} (hi : M[i]? = some o) (ne : i ≠ h) : N[i]? = some o := by rw [e.2 i (List.getElem?_eq_some_iff.mp hi).1 ne]; exact hi
theorem Ex1.agr (e : Ex1 h M N) (a : av h = true) : ∀ i, av i = false -> ∀ mo, M[i]? = some mo -> N[i]? = some mo := fun i ai mo hi => e.at hi fun z => by rw [z, a] at ai; cases ai
theorem Rd.ex (r : Rd av M k w d) (e : Ex1 h M N) (a : av h = true) : Rd av N k w d := r.to (Nat.le_refl _) (e.agr a)
theorem RdA.ex (r : RdA av M k ws ds) (e : Ex1 h M N) (a : av h = true) : RdA av N k ws ds := r.to (Nat.le_refl _) (e.agr a)
theorem Rd.set {o : MO} (r : Rd av M k w d) (ai : av i = true) : Rd av (M.set i o) k w d := r.to (Nat.le_refl _) fun j aj mo hj => by rw [List.getElem?_set_ne (fun z => by rw [z, aj] at ai; cases ai)]; exact hj
theorem RdA.set {o : MO} (r : RdA av M k ws ds) (ai : av i = true) : RdA av (M.set i o) k ws ds := r.to (Nat.le_refl _) fun j aj mo hj => by rw [List.getElem?_set_ne (fun z => by rw [z, aj] at ai; cases ai)]; exact hj
theorem Rd.app {J : Mem} (r : Rd av M k w d) : Rd av (M ++ J) k w d := r.to (Nat.le_refl _) fun i _ mo hi => get_old hi
theorem RdA.app {J : Mem} (r : RdA av M k ws ds) : RdA av (M ++ J) k ws ds := r.to (Nat.le_refl _) fun i _ mo hi => get_old hi
theorem hand_at (hd : HandX M h n) (same : N[h]? = M[h]?) : HandX N h n := let ⟨a, b, c, q, r⟩ := hd; ⟨a, b, c, same.trans q, r⟩
theorem deep_isD : ∀ {ws : List W} {ds : List PyData}, ws.all isD = true -> deepVs av M k ws = some ds -> deepVs av N m ws = some ds
  | [], ds, _, e => by simpa only [deepVs] using e
  | w :: ws, ds, a, e => by
    simp only [List.all_cons, Bool.and_eq_true] at a
    simp only [deepVs] at e ⊢
    obtain ⟨d, e1, e3⟩ := bsome e
    rw [Option.map_eq_some_iff] at e3
    obtain ⟨ds, e2, rfl⟩ := e3
    cases w with
    | d z =>
      obtain ⟨z1, z2⟩ := deepV_e e1
      rw [z1, deepV_d z2, deep_isD a.2 e2]
      rfl
    | scr => cases k <;> simp [deepV] at e1
    | obj i => cases a.1
    | pack us => cases a.1
    | fn => cases a.1
theorem norm_t (hd : HandX N h n) (ex : Ex1 h M N) (hl : h < M.length) (lim : ∀ i, av i = true -> i < M.length) (r : Rd av N k w d) : ∃ w1 M1, norm M (w, N) = (w1, M1) /\ Rd av M1 k w1 d /\ HandX M1 h n /\ Ex1 h M M1 := by
  have tk : ∀ i, i < M.length -> (N.take M.length)[i]? = N[i]? := fun i hi => by rw [List.getElem?_take, if_pos hi]
  have tl : (N.take M.length).length = M.length := by rw [List.length_take]; have := ex.1; omega
  have ext : Ex1 h M (N.take M.length) := ⟨by rw [tl]; exact Nat.le_refl _, fun i hi n1 => (tk i hi).trans (ex.2 i hi n1)⟩
  unfold norm
  split
  · rename_i c
    refine ⟨_, _, rfl, ?_, hand_at hd (tk h hl), ext⟩
    cases w with
    | d z =>
      obtain ⟨z1, z2⟩ := r.isD
      rw [z1]
      exact .dat z2 r.s r.p
    | scr => have := r.e; cases k <;> simp [deepV] at this
    | obj i => cases c.1
    | pack us => cases c.1
    | fn => cases c.1
  · cases w with
    | obj i =>
      simp only
      split
      · rename_i mo hm
        split
        · rename_i c
          have ap : ∀ j, j < M.length -> (N.take M.length ++ [mo])[j]? = N[j]? := fun j hj => by rw [List.getElem?_append_left (by rw [tl]; exact hj)]; exact tk j hj
          refine ⟨_, _, rfl, ?_, hand_at hd (ap h hl), ext.trans .app⟩
          obtain ⟨r1, r2, r3⟩ := r
          refine ⟨?_, r2, r3⟩
          cases k with
          | zero => simp [deepV] at r1
          | succ m =>
            simp only [deepV] at r1 ⊢
            have an : av M.length = false := by
              cases z : av M.length with
              | false => rfl
              | true => exact absurd (lim _ z) (Nat.lt_irrefl _)
            have g : (N.take M.length ++ [mo])[M.length]? = some mo := by rw [List.getElem?_append_right (by rw [tl]; exact Nat.le_refl _), tl, Nat.sub_self]; rfl
            rw [an, g]
            split at r1
            · cases r1
            · rw [hm] at r1
              simp only [Bool.false_eq_true, if_false]
              cases mo with
              | lst ws =>
                simp only [Option.map_eq_some_iff] at r1 ⊢
                obtain ⟨ds, e, rfl⟩ := r1
                exact ⟨ds, deep_isD c.2.1 e, rfl⟩
              | dic es st => exact r1
              | kset ds => cases r1
              | pot es => cases r1
        · exact ⟨_, _, rfl, r, hd, ex⟩
      · exact ⟨_, _, rfl, r, hd, ex⟩
    | d z => exact ⟨_, _, rfl, r, hd, ex⟩
    | scr => exact ⟨_, _, rfl, r, hd, ex⟩
    | pack us => exact ⟨_, _, rfl, r, hd, ex⟩
    | fn => exact ⟨_, _, rfl, r, hd, ex⟩
/-- a def that draws, and tells a thing -/
theorem fn_t {kk : Nat} {gg : EvS} {as : List W} {Q : W × Mem -> Prop} (hl : h < M.length) (lim : ∀ i, av i = true -> i < M.length)
    (H : Ok (gg (as.map some ++ List.replicate (kk - as.length) none) M) fun o => ∃ w M' d k n, o = .rt w M' /\ Rd av M' k w d /\ HandX M' h n /\ Ex1 h M M' /\ ∀ w1 M1, Rd av M1 k w1 d -> HandX M1 h n -> Ex1 h M M1 -> Q (w1, M1)) : Ok (nf (fnV kk gg) as M) Q := by
  obtain ⟨o, eo, w, M', d, k, n, rfl, r, hd, ex, q⟩ := H
  obtain ⟨w1, M1, e, r1, hd1, ex1⟩ := norm_t hd ex hl lim r
  refine ⟨(w1, M1), ?_, q w1 M1 r1 hd1 ex1⟩
  unfold nf fnV
  rw [eo]
  exact congrArg some e
/-- one that was there is not moved -/
theorem norm_in (r : Rd av M k w d) (hd : HandX M1 h n) (up : Upd h M M1) : norm M (w, M1) = (w, M1) := by
  have no : ∀ {w : W}, isD w = false -> (∀ i, w = .obj i -> i < M.length) -> norm M (w, M1) = (w, M1) := fun {w} nd ob => by
    unfold norm
    rw [if_neg (fun z => by rw [nd] at z; cases z.1)]
    cases w with
    | obj i =>
      simp only
      split
      · rw [if_neg (fun z => by have := ob i rfl; omega)]
      · rfl
    | _ => rfl
  cases w with
  | d z => exact hd.norm0 up rfl
  | scr => exact hd.norm0 up rfl
  | pack us => exact no rfl fun i z => by cases z
  | fn => exact no rfl fun i z => by cases z
  | obj i =>
    refine no rfl fun j z => ?_
    cases z
    have e := r.e
    cases k with
    | zero => simp [deepV] at e
    | succ m =>
      simp only [deepV] at e
      split at e
      · cases e
      · cases hm : M[i]? with
        | none => rw [hm] at e; cases e
        | some mo => exact (List.getElem?_eq_some_iff.mp hm).1
mutual
def intB (B : Nat) : PyData -> Bool
  | .int i => decide (i.natAbs <= B)
  | .tuple ds => intA B ds
  | _ => true
def intA (B : Nat) : List PyData -> Bool
  | [] => true
  | d :: ds => intB B d && intA B ds
end
theorem intA_all {B : Nat} : ∀ {ds : List PyData}, intA B ds = true ↔ ∀ d ∈ ds, intB B d = true
  | [] => by simp [intA]
  | d :: ds => by simp [intA, intA_all]
theorem txts_append : ∀ (a b : List PyData), txts (a ++ b) = txts a + txts b
  | [], b => by simp [txts]
  | d :: a, b => by simp only [List.cons_append, txts, txts_append a b]; omega
theorem txts_reverse : ∀ (a : List PyData), txts a.reverse = txts a
  | [] => rfl
  | d :: a => by rw [List.reverse_cons, txts_append, txts_reverse a]; simp only [txts]; omega
theorem txt_mem : ∀ {a : List PyData} {d : PyData}, d ∈ a -> txt d + 2 <= txts a
  | x :: a, d, h => by
    simp only [txts]
    rcases List.mem_cons.mp h with z | z
    · subst z; omega
    · have := txt_mem z; omega
theorem log_small {a : Nat} (h : a <= 1000000) : a.log2 < 1920 := by
  rcases Nat.eq_zero_or_pos a with z | z
  · subst z; decide
  · exact (Nat.log2_lt (by omega)).mpr (Nat.lt_of_le_of_lt h (Nat.lt_of_lt_of_le (by decide : (1000000 : Nat) < 2 ^ 20) (Nat.pow_le_pow_right (by decide) (by decide))))
theorem txt_int {i : Int} (h : i.natAbs <= 1000000) : txt (.int i) <= 13 := by
  simp only [txt]
  exact PyData.shown_int_le2 (by omega) (by omega)
/-- a thing, its numbers at most B, its text at most L long -/
structure Tg (av : Nat -> Bool) (M : Mem) (k B L : Nat) (w : W) (d : PyData) : Prop where
  r : Rd av M k w d
  i : intB B d = true
  t : txt d <= L
theorem Tg.ex {B L : Nat} (t : Tg av M k B L w d) (e : Ex1 h M N) (a : av h = true) : Tg av N k B L w d := ⟨t.r.ex e a, t.i, t.t⟩
theorem intB_mono {B B' : Nat} (le : B <= B') : ∀ {d : PyData}, intB B d = true -> intB B' d = true
  | .int i, h => by simp only [intB, decide_eq_true_eq] at h ⊢; omega
  | .tuple ds, h => by
    simp only [intB] at h ⊢
    rw [intA_all] at h ⊢
    intro d hd
    have : sizeOf d < 1 + sizeOf ds := by have := List.sizeOf_lt_of_mem hd; omega
    exact intB_mono le (h d hd)
  | .none, _ => rfl
  | .bool _, _ => rfl
  | .str _, _ => rfl
  | .list _, _ => rfl
  | .dict _, _ => rfl
/-- its text -/
theorem Tg.rep {B L : Nat} (t : Tg av M k B L w d) (k50 : k <= 50) (fits : L <= 10000000) : fRepW [w] M = some (.d (.str d.shown), M) := by
  have ok : ShowW d := ⟨t.r.s, by have := t.r.p; omega, Nat.le_trans (shown_txt d) (Nat.le_trans t.t (Nat.le_trans fits (by decide)))⟩
  have e := deepR_up k50 (deepV_R k w d t.r.e)
  simp only [fRepW, e, Option.bind_some]
  rw [if_pos ok]
end
end Va
namespace Va
open PySem PySem.Spec PyProof.Rows L2 Sa Gn
section
variable {av : Nat -> Bool} {M : Mem} {k : Nat} {w : W} {ws : List W} {d : PyData} {ds : List PyData} {ρ : Ev}
theorem Rd.int_eq {i : Int} (r : Rd av M k w (.int i)) : w = .d (.int i) := by
  have e := r.e
  cases w with
  | d z => obtain ⟨rfl, _⟩ := r.isD; rfl
  | obj j =>
    cases k with
    | zero => simp [deepV] at e
    | succ m =>
      simp only [deepV] at e
      split at e
      · cases e
      · split at e <;> simp at e
  | pack us => cases k <;> simp [deepV] at e
  | scr => cases k <;> simp [deepV] at e
  | fn => cases k <;> simp [deepV] at e
theorem Rd.str_eq {i : Str} (r : Rd av M k w (.str i)) : w = .d (.str i) := by
  have e := r.e
  cases w with
  | d z => obtain ⟨rfl, _⟩ := r.isD; rfl
  | obj j =>
    cases k with
    | zero => simp [deepV] at e
    | succ m =>
      simp only [deepV] at e
      split at e
      · cases e
      · split at e <;> simp at e
  | pack us => cases k <;> simp [deepV] at e
  | scr => cases k <;> simp [deepV] at e
  | fn => cases k <;> simp [deepV] at e
theorem Rd.bool_eq {i : Bool} (r : Rd av M k w (.bool i)) : w = .d (.bool i) := by
  have e := r.e
  cases w with
  | d z => obtain ⟨rfl, _⟩ := r.isD; rfl
  | obj j =>
    cases k with
    | zero => simp [deepV] at e
    | succ m =>
      simp only [deepV] at e
      split at e
      · cases e
      · split at e <;> simp at e
  | pack us => cases k <;> simp [deepV] at e
  | scr => cases k <;> simp [deepV] at e
  | fn => cases k <;> simp [deepV] at e
theorem seq_tup (e : tupOf w = some ws) : seqOf M w = some ws := by
  cases w with
  | obj i => cases e
  | _ => exact e
theorem src_tup (e : tupOf w = some ws) : srcOf M w = some (ws, []) := by
  cases w with
  | obj i => cases e
  | d z => show (tupOf _).bind _ = _; rw [e]; rfl
  | pack us => cases e; rfl
  | scr => cases e
  | fn => cases e
theorem iseq_tup {a : EvE} (ea : a ρ M = some (w, M)) (e : tupOf w = some ws) : iSeq a ρ M = some ((ws, []), M) := by
  have h : iSeq a ρ M = (a ρ M).bind fun p => (srcOf p.2 p.1).bind fun s => some (s, p.2) := by
    simp only [x_iseqO]
    cases a ρ M with
    | none => rfl
    | some p =>
      obtain ⟨w', M'⟩ := p
      cases w' with
      | obj i =>
        simp only [srcOf, Option.bind_some]
        cases lstAt M' (.obj i) <;> rfl
      | d z => simp only [srcOf, Option.bind_some]; cases tupOf (.d z) <;> rfl
      | pack us => simp only [srcOf, Option.bind_some]; cases tupOf (.pack us) <;> rfl
      | scr => rfl
      | fn => rfl
  rw [h, ea]
  simp only [Option.bind_some, src_tup e]
/-- of what kind it is not: no tuple -/
def isTupD : PyData -> Bool
  | .tuple _ => true
  | _ => false
def isIntD : PyData -> Bool
  | .int _ => true
  | _ => false
def isBoolD : PyData -> Bool
  | .bool _ => true
  | _ => false
def isStrD : PyData -> Bool
  | .str _ => true
  | _ => false
theorem kd_tup : isiB "tuple" (kindD d) = isTupD d := by cases d <;> (simp only [kindD, isTupD, isStrD, isBoolD, isIntD]; decide +kernel)
theorem kd_str : isiB "str" (kindD d) = isStrD d := by cases d <;> (simp only [kindD, isTupD, isStrD, isBoolD, isIntD]; decide +kernel)
theorem kd_bool : isiB "bool" (kindD d) = isBoolD d := by cases d <;> (simp only [kindD, isTupD, isStrD, isBoolD, isIntD]; decide +kernel)
theorem kd_int : isiB "int" (kindD d) = (isIntD d || isBoolD d) := by cases d <;> (simp only [kindD, isTupD, isStrD, isBoolD, isIntD]; decide +kernel)
theorem isi_rd {T : String} {a : EvE} (r : Rd av M k w d) (ea : a ρ M = some (w, M)) : eIsi T a ρ M = some (.d (.bool (isiB T (kindD d))), M) := by
  simp only [x_isi, ea, Option.bind_some, r.kind]
noncomputable def fWhole : Fn := nf (fnV 1 (sRet (eAnd (eIsi "int" (eVar 0)) (eNot (eIsi "bool" (eVar 0))))))
theorem whole_x (r : Rd av M k w d) : fWhole [w] M = some (.d (.bool (isIntD d)), M) := by
  have e1 := isi_rd (T := "int") (a := eVar 0) (ρ := [some w]) r (by simp)
  have e2 := isi_rd (T := "bool") (a := eVar 0) (ρ := [some w]) r (by simp)
  rw [kd_int] at e1
  rw [kd_bool] at e2
  cases d <;> simp [fWhole, nf, fnV, e1, e2, isIntD, isBoolD, -x_isi]
def wholeD (lo hi : Int) : PyData -> Bool
  | .int n => decide (lo <= n) && decide (n <= hi)
  | _ => false
noncomputable def fWithin : Fn := nf (fnV 3 (sRet (eAnd (eDef 1 fWhole (aCons (eVar 0) aNil)) (eCh oLe oLe (eVar 1) (eVar 0) (eVar 2)))))
theorem within_x {lo hi : Int} (r : Rd av M k w d) : fWithin [w, .d (.int lo), .d (.int hi)] M = some (.d (.bool (wholeD lo hi d)), M) := by
  have e := whole_x r
  cases d with
  | int n =>
    cases r.int_eq
    by_cases c : lo <= n <;> simp [fWithin, nf, fnV, e, isIntD, wholeD, eCh, c]
  | _ => simp [fWithin, nf, fnV, e, isIntD, wholeD]
def lenD (n : Int) : PyData -> Bool
  | .tuple ds => decide ((ds.length : Int) = n)
  | _ => false
theorem tuple_of_x {n : Int} (r : Rd av M k w d) : Pg.F_is_tuple_of [w, .d (.int n)] M = some (.d (.bool (lenD n d)), M) := by
  have e1 := isi_rd (T := "tuple") (a := eVar 0) (ρ := [some w, some (.d (.int n))]) r (by simp)
  rw [kd_tup] at e1
  cases d with
  | tuple ds =>
    obtain ⟨ws, hw, m, _, q⟩ := r.isTup
    have sq := seq_tup (M := M) hw
    simp [Pg.F_is_tuple_of, nf, fnV, Pg.g_is_tuple_of, e1, isTupD, lenD, sq, q.length, -x_isi]
  | _ => simp [Pg.F_is_tuple_of, nf, fnV, Pg.g_is_tuple_of, e1, isTupD, lenD, -x_isi]
def headD (x : Str) (n : Nat) : PyData -> Bool
  | .tuple (.str z :: ds) => decide (ds.length + 1 = n) && decide (z = x)
  | _ => false
theorem ix_rd {j : Nat} (r : RdA av M k ws ds) (hw : tupOf w = some ws) (lt : j < ds.length) : ∃ x, ws[j]? = some x /\ Rd av M k x ds[j] /\ ∀ (N : Mem), oIx w (.d (.int (j : Int))) N = some (x, N) := by
  have l : j < ws.length := by rw [r.length]; exact lt
  obtain ⟨y, hy, q⟩ := r.get (List.getElem?_eq_getElem l)
  rw [List.getElem?_eq_getElem lt] at hy
  cases hy
  refine ⟨_, List.getElem?_eq_getElem l, q, fun N => ?_⟩
  simp only [x_ix, seq_tup hw, Option.bind_some, atI_nat' (List.getElem?_eq_getElem l)]
theorem headed_x {x : Str} {n : Nat} (n0 : 0 < n) (r : Rd av M k w d) : Pg.F_is_headed [w, .d (.str x), .d (.int (n : Int))] M = some (.d (.bool (headD x n d)), M) := by
  have e1 := tuple_of_x (n := (n : Int)) r
  cases d with
  | tuple ds =>
    obtain ⟨ws, hw, m, _, q⟩ := r.isTup
    by_cases hl : ds.length = n
    · cases ds with
      | nil => simp at hl; omega
      | cons y ds =>
        obtain ⟨x0, _, rx, ix⟩ := ix_rd (j := 0) q hw (by simp)
        simp only [List.getElem_cons_zero] at rx
        have e2 := isi_rd (T := "str") (a := eOp oIx (eVar 0) (eC (.int 0))) (ρ := [some w, some (.d (.str x)), some (.d (.int (n : Int)))]) rx (by simpa using ix M)
        rw [kd_str] at e2
        have e1' : Pg.F_is_tuple_of [w, .d (.int (n : Int))] M = some (.d (.bool true), M) := by rw [e1]; simp [lenD, hl]
        have ix' : oIx w (.d (.int 0)) M = some (x0, M) := ix M
        cases y with
        | str z =>
          cases rx.str_eq
          have h1 : ds.length + 1 = n := by simpa using hl
          simp [Pg.F_is_headed, nf, fnV, Pg.g_is_headed, e1', e2, isStrD, headD, ix', h1, -x_isi, -x_ix]
        | _ => simp [Pg.F_is_headed, nf, fnV, Pg.g_is_headed, e1', e2, isStrD, headD, ix', -x_isi, -x_ix]
    · have e1' : Pg.F_is_tuple_of [w, .d (.int (n : Int))] M = some (.d (.bool false), M) := by
        rw [e1]
        simp only [lenD]
        rw [decide_eq_false (by omega)]
      have hf : headD x n (.tuple ds) = false := by
        unfold headD
        split
        · rename_i z ds' e
          cases e
          rw [decide_eq_false (by simpa using hl), Bool.false_and]
        · rfl
      simp [Pg.F_is_headed, nf, fnV, Pg.g_is_headed, e1', hf]
  | _ => simp [Pg.F_is_headed, nf, fnV, Pg.g_is_headed, e1, lenD, headD]
theorem RdA.pairs (r : RdA av M k ws ds) : ∃ ps : List (W × PyData), ps.map (·.1) = ws /\ ps.map (·.2) = ds /\ ∀ p ∈ ps, Rd av M k p.1 p.2 := by
  induction r with
  | nil => exact ⟨[], rfl, rfl, fun _ h => nomatch h⟩
  | @cons w d ws ds a _ ih =>
    obtain ⟨ps, h1, h2, h3⟩ := ih
    refine ⟨(w, d) :: ps, by simp [h1], by simp [h2], fun p hp => ?_⟩
    rcases List.mem_cons.mp hp with z | z
    · rw [z]; exact a
    · exact h3 p z
@[simp] theorem x_neB {p q : Bool} : oNe (.d (.bool p)) (.d (.bool q)) M = some (.d (.bool (!decide (p = q))), M) := rfl
end
end Va
namespace K51
open PySem PySem.Spec PyProof.Rows L2 Sa Va Gn
end K51
namespace K51
open PySem PySem.Spec PyProof.Rows L2 Sa Va Gn
section
variable {d : PyData} {ds : List PyData} {n : Int}
theorem head_is {x : Str} {n : Nat} (h : headD x n d = true) : ∃ ds, d = .tuple (.str x :: ds) /\ ds.length + 1 = n := by
  unfold headD at h
  split at h
  · simp only [Bool.and_eq_true, decide_eq_true_eq] at h
    obtain ⟨h1, rfl⟩ := h
    exact ⟨_, rfl, h1⟩
  · cases h
end
end K51
namespace K51
open PySem PySem.Spec PyProof.Rows L2 Sa Va Gn
end K51
namespace K51
open PySem PySem.Spec PyProof.Rows L2 Sa Va Gn
section
variable {ws : List W} {ds : List PyData}
theorem tup_mkTup : tupOf (mkTup ws) = some ws := by
  unfold mkTup
  split
  · rename_i ds e
    rw [datas_eq e]
    rfl
  · rfl
end
end K51
set_option maxHeartbeats 2000000
namespace K51
open PySem PySem.Spec PyProof.Rows L2 Sa Va Gn
end K51
set_option maxHeartbeats 1000000
namespace K51
open PySem PySem.Spec PyProof.Rows L2 Sa Va Gn
open Lx (HandX)
open Lw (Upd)
section
variable {av : Nat -> Bool} {M : Mem} {k h p : Nat} {d t : PyData} {ds rows ff wd : List PyData} {n : Int}
def Sml (d : PyData) : Prop := ∃ i : Int, d = .int i /\ 0 <= i /\ i <= 100
def Row4 (d : PyData) : Prop := ∃ a b c e : PyData, d = .tuple [a, b, c, e] /\ Sml a /\ Sml b /\ Sml c /\ Sml e
def Tbl (t : PyData) : Prop := ∃ n ff wd rows, t = .tuple [.str "table", n, .tuple ff, .tuple wd, .tuple rows] /\ Sml n /\ (∀ f ∈ ff, Sml f) /\ ff.length <= 7 /\ (∀ b ∈ wd, ∃ x, b = .bool x) /\ wd.length <= 61 /\ (∀ r ∈ rows, Row4 r) /\ rows.length <= 25
/-- plain data, shown, so deep, its numbers small, so long -/
structure Pl (d : PyData) (D L : Nat) : Prop where
  pl : plainD d = true
  s : d.showable = true
  p : d.depth <= D
  i : intB 100 d = true
  t : txt d <= L
theorem Sml.pl (h : Sml d) : Pl d 0 13 := by
  obtain ⟨i, rfl, h0, h1⟩ := h
  exact ⟨rfl, by simpa [PyData.showable] using log_small (a := i.natAbs) (by omega), Nat.le_refl _, by simp [intB]; omega, txt_int (by omega)⟩
theorem pl_all {D L : Nat} : ∀ {ds : List PyData}, (∀ d ∈ ds, Pl d D L) -> plainA ds = true /\ PyData.showableAll ds = true /\ PyData.depthAll ds <= D /\ intA 100 ds = true /\ txts ds <= ds.length * (L + 2)
  | [], _ => ⟨rfl, rfl, Nat.zero_le _, rfl, by simp [txts]⟩
  | d :: ds, h => by
    obtain ⟨h1, h2, h3, h4, h5⟩ := pl_all (ds := ds) fun x hx => h x (List.mem_cons_of_mem _ hx)
    obtain ⟨g1, g2, g3, g4, g5⟩ := h d List.mem_cons_self
    refine ⟨by simp [plainA, g1, h1], by simp [PyData.showableAll, g2, h2], by simp only [PyData.depthAll]; omega, by simp [intA, g4, h4], ?_⟩
    simp only [txts, List.length_cons, Nat.succ_mul]
    omega
theorem Pl.tup {D L m : Nat} (h : ∀ d ∈ ds, Pl d D L) (few : ds.length <= m) : Pl (.tuple ds) (D + 1) (m * (L + 2) + 3) := by
  obtain ⟨h1, h2, h3, h4, h5⟩ := pl_all h
  refine ⟨by simpa [plainD] using h1, by simpa [PyData.showable] using h2, by rw [dp_tuple]; omega, by simpa [intB] using h4, ?_⟩
  simp only [txt]
  have : ds.length * (L + 2) <= m * (L + 2) := Nat.mul_le_mul_right _ few
  omega
theorem Pl.mono {D L D' L' : Nat} (h : Pl d D L) (a : D <= D') (b : L <= L') : Pl d D' L' := ⟨h.pl, h.s, Nat.le_trans h.p a, h.i, Nat.le_trans h.t b⟩
theorem Row4.pl (h : Row4 d) : Pl d 1 63 := by
  obtain ⟨a, b, c, e, rfl, ha, hb, hc, he⟩ := h
  refine Pl.tup (m := 4) (L := 13) (fun d hd => ?_) (by simp)
  simp only [List.mem_cons, List.not_mem_nil, or_false] at hd
  rcases hd with rfl | rfl | rfl | rfl
  · exact ha.pl
  · exact hb.pl
  · exact hc.pl
  · exact he.pl
theorem Pl.str : Pl (.str "table") 0 7 := ⟨rfl, rfl, Nat.le_refl _, rfl, by simp only [txt, PyData.shown]; decide +kernel⟩
theorem Tbl.pl (h : Tbl t) : Pl t 3 8268 := by
  obtain ⟨n, ff, wd, rows, rfl, hn, hf, lf, hw, lw, hr, lr⟩ := h
  have p1 : Pl n 2 1651 := hn.pl.mono (by decide) (by decide)
  have p2 : Pl (.tuple ff) 2 1651 := (Pl.tup (m := 7) (fun f hf' => (hf f hf').pl) lf).mono (by decide) (by decide)
  have p3 : Pl (.tuple wd) 2 1651 := (Pl.tup (m := 61) (D := 0) (L := 5) (fun b hb => by
    obtain ⟨x, rfl⟩ := hw b hb
    exact ⟨rfl, rfl, Nat.le_refl _, rfl, by simp [txt]⟩) lw).mono (by decide) (by decide)
  have p4 : Pl (.tuple rows) 2 1651 := (Pl.tup (m := 25) (fun r hr' => (hr r hr').pl) lr).mono (by decide) (by decide)
  refine Pl.tup (m := 5) (D := 2) (L := 1651) (fun d hd => ?_) (by simp)
  simp only [List.mem_cons, List.not_mem_nil, or_false] at hd
  rcases hd with rfl | rfl | rfl | rfl | rfl
  · exact Pl.str.mono (by decide) (by decide)
  · exact p1
  · exact p2
  · exact p3
  · exact p4
theorem Pl.tg {D L : Nat} (h : Pl d D L) (k D' : Nat) (le : D <= k) : Tg av M k 100 L (.d d) d := ⟨.dat h.pl h.s (Nat.le_trans h.p le), h.i, h.t⟩
end
end K51
namespace K51
open PySem PySem.Spec PyProof.Rows L2 Sa Va Gn
open Lx (HandX)
open Lw (Upd)
end K51
namespace K51
open PySem PySem.Spec PyProof.Rows L2 Sa Va Gn
open Lx (HandX)
open Lw (Upd)
section
variable {k : Nat} {w : W} {d : PyData} {m : Int}
theorem range_get {m : Nat} {i : Nat} {w : W} (hw : ((List.range m).map fun (k : Nat) => W.d (.int (k : Int)))[i]? = some w) : w = .d (.int (i : Int)) /\ i < m := by
  rw [List.getElem?_map, Option.map_eq_some_iff] at hw
  obtain ⟨x, hx, rfl⟩ := hw
  obtain ⟨hl, e⟩ := List.getElem?_eq_some_iff.mp hx
  simp at hl e
  subst e
  exact ⟨rfl, hl⟩
end
end K51
namespace K51
open PySem PySem.Spec PyProof.Rows L2 Sa Va Gn
open Lx (HandX)
open Lw (Upd)
section
variable {h : Nat} {d : PyData} {es : List (PyData × PyData)}
/-- two numbers -/
def Two (d : PyData) : Prop := ∃ a b : PyData, d = .tuple [a, b] /\ Sml a /\ Sml b
theorem Two.key (h : Two d) : keyD (.d d) = some d := by
  obtain ⟨_, _, rfl, ⟨a, rfl, _⟩, ⟨b, rfl, _⟩⟩ := h
  have f : flat (.tuple [.int a, .int b]) = true := by simp [flat, flats]
  have g : (nk (.tuple [.int a, .int b])).depth <= 8 := by simp [nk, nks, NestedKey.depth, NestedKey.depthAll]
  simp only [keyD, f, g, and_self, if_true]
/-- the dict of a wide table -/
def DOk (es : List (PyData × PyData)) : Prop := ∀ e ∈ es, Two e.1 /\ Two e.2
theorem DOk.put {x y : PyData} (o : DOk es) (hx : Two x) (hy : Two y) : DOk (dPut es x y) /\ (dPut es x y).length <= es.length + 1 := by
  unfold dPut
  split
  · refine ⟨fun e he => ?_, by simp⟩
    obtain ⟨e', he', rfl⟩ := List.mem_map.mp he
    split
    · exact ⟨(o e' he').1, hy⟩
    · exact o e' he'
  · refine ⟨fun e he => ?_, by simp⟩
    rcases List.mem_append.mp he with z | z
    · exact o e z
    · rw [List.mem_singleton.mp z]; exact ⟨hx, hy⟩
theorem DOk.get (o : DOk es) {x : PyData} (hx : x ∈ es.map (·.1)) : ∃ y, dGet es x = some y /\ Two y := by
  obtain ⟨e, he, rfl⟩ := List.mem_map.mp hx
  unfold dGet
  cases hf : es.find? fun e' => decide (nk e'.1 = nk e.1) with
  | none =>
    have := List.find?_eq_none.mp hf e he
    simp at this
  | some e' => exact ⟨_, rfl, (o e' (List.mem_of_find?_eq_some hf)).2⟩
end
end K51
namespace K51
open PySem PySem.Spec PyProof.Rows L2 Sa Va Gn
open Lx (HandX)
open Lw (Upd)
section
variable {es : List (PyData × PyData)}
/-- a row by the dict -/
def rowOf (es : List (PyData × PyData)) : PyData -> PyData
  | .tuple xs => match dGet es (.tuple xs) with
    | some (.tuple ys) => .tuple (xs ++ ys)
    | _ => .none
  | _ => .none
end
end K51
namespace K51
open PySem PySem.Spec PyProof.Rows L2 Sa Va Gn
open Lx (HandX)
open Lw (Upd)
section
variable {av : Nat -> Bool} {M N : Mem} {k h p l K B L : Nat} {w x y : W} {ws us : List W} {d t : PyData} {ds : List PyData}
/-- all of these are such things -/
def Tgs (av : Nat -> Bool) (M : Mem) (K B L : Nat) (ws : List W) : Prop := ∀ x ∈ ws, ∃ y, Tg av M K B L x y
theorem _root_.Va.Tg.up {K' B' L' : Nat} (t : Tg av M K B L w d) (a : K <= K') (b : B <= B') (c : L <= L') : Tg av M K' B' L' w d := ⟨t.r.up a, intB_mono b t.i, Nat.le_trans t.t c⟩
theorem _root_.Va.Tg.app {J : Mem} (t : Tg av M K B L w d) : Tg av (M ++ J) K B L w d := ⟨t.r.app, t.i, t.t⟩
theorem Tgs.app {J : Mem} (t : Tgs av M K B L ws) : Tgs av (M ++ J) K B L ws := fun x hx => let ⟨y, hy⟩ := t x hx; ⟨y, hy.app⟩
theorem Tgs.ex (t : Tgs av M K B L ws) (e : Ex1 h M N) (a : av h = true) : Tgs av N K B L ws := fun x hx => let ⟨y, hy⟩ := t x hx; ⟨y, hy.ex e a⟩
theorem Tgs.append (t : Tgs av M K B L ws) (s : Tgs av M K B L us) : Tgs av M K B L (ws ++ us) := fun x hx => (List.mem_append.mp hx).elim (t x) (s x)
theorem Tgs.up {K' B' L' : Nat} (t : Tgs av M K B L ws) (a : K <= K') (b : B <= B') (c : L <= L') : Tgs av M K' B' L' ws := fun x hx => let ⟨y, hy⟩ := t x hx; ⟨y, Tg.up hy a b c⟩
theorem dat_tg {x : PyData} (pl : plainD x = true) (s : x.showable = true) (p : x.depth <= K) (i : intB B x = true) (t : txt x <= L) : Tg av M K B L (.d x) x := ⟨.dat pl s p, i, t⟩
/-- a list of things that is new -/
theorem lst_tg (hl : M[l]? = some (.lst us)) (nav : av l = false) (r : RdA av M k us ds) (t : txts ds + 3 <= L) : Tg av M (k + 1) B L (.obj l) (.list ds) := by
  obtain ⟨r1, r2, r3⟩ := r.all
  refine ⟨⟨?_, by simpa [PyData.showable] using r2, by rw [dp_list]; omega⟩, rfl, by simpa only [txt] using t⟩
  simp only [deepV, nav, hl, r1, Bool.false_eq_true, if_false, Option.map_some]
theorem dic_tg {s : Nat} (hl : M[l]? = some (.dic [] s)) (nav : av l = false) (L2 : 2 <= L) : Tg av M (k + 1) B L (.obj l) (.dict []) := by
  refine ⟨⟨?_, rfl, by simp [PyData.depth, PyData.depthKv]⟩, rfl, Nat.le_trans ?_ L2⟩
  · simp only [deepV, nav, hl, Bool.false_eq_true, if_false]
  · simp only [txt]; decide +kernel
theorem tup_tg (r : RdA av M k us ds) (i : intA B ds = true) (t : txts ds + 3 <= L) : Tg av M (k + 1) B L (mkTup us) (.tuple ds) := ⟨r.tup, by simpa [intB] using i, by simpa only [txt] using t⟩
theorem add_tup {a b : W} {ls ks : List W} (ha : tupOf a = some ls) (hb : tupOf b = some ks) (few : ls.length + ks.length <= 1000000) : oAddG a b M = some (mkTup (ls ++ ks), M) := by
  have e : oAddG a b M = oCatT a b M := by
    unfold oAddG
    split
    · cases ha
    · cases ha
    · rfl
  rw [e]
  simp only [oCatT, ha, hb, Option.bind_some]
  rw [if_pos (Nat.le_trans few (by decide))]
/-- the beginning: what may stand in any place -/
noncomputable def C0 : EvE := (eLst (aCons (eC .none) (aCons (eC (.bool true)) (aCons (eC (.bool false)) (aCons (eC (.int 0)) (aCons (eC (.int 1)) (aCons (eUn oNeg (eC (.int 1))) (aCons (eC (.int 60)) (aCons (eC (.int 61)) (aCons (eC (.str "")) (aCons (eC (.str "table")) (aCons (eTup aNil) (aCons (eLst aNil) (aCons eDict0 (aCons (eTup (aCons (eTup aNil) aNil)) (aCons (eTup (aCons (eC (.int 0)) (aCons (eC (.int 0)) (aCons (eC (.int 0)) (aCons (eC (.int 1)) aNil))))) (aCons (eTup (aCons (eC (.int 1)) (aCons (eC (.int 0)) (aCons (eC (.int 0)) (aCons (eC (.int 1)) aNil))))) aNil)))))))))))))))))
noncomputable def C1 : EvE := (eLst (aCons (eCall fList (aCons (eVar 1) aNil)) (aCons (eOp oAddG (eVar 1) (eSlT (some (-1)) none (eVar 1))) (aCons (eSlT none (some (-1)) (eVar 1)) (aCons (eRev (eVar 1)) (aCons (eOp oAddG (eSlT (some 1) none (eVar 1)) (eSlT none (some 1) (eVar 1))) (aCons (eTup (aCons (eVar 1) aNil)) aNil)))))))
noncomputable def C2 : EvE := (eLst (aCons (eOp oAddN (eVar 1) (eC (.int 1))) (aCons (eOp oSubN (eVar 1) (eC (.int 1))) (aCons (eOp oEqN (eVar 1) (eC (.int 1))) (aCons (eCall fStrN (aCons (eVar 1) aNil)) (aCons (eLst (aCons (eVar 1) aNil)) aNil))))))
theorem g_odd_eq : g__law_odd = (sSeq (sSet 2 C0)
    (sSeq (sIf (tVal (eIsi "tuple" (eVar 1))) (sSet 2 (eOp oCat (eVar 2) (eOp oRep C1 (eC (.int 3))))) sNil)
    (sSeq (sIf (tVal (eIsi "int" (eVar 1))) (sSet 2 (eOp oCat (eVar 2) (eOp oRep C2 (eC (.int 3))))) sNil)
    (sRet (eDef 2 (K53.F__law_of) (aCons (eVar 0) (aCons (eVar 2) aNil))))))) := rfl
def consts (M : Mem) : List W := [.d .none, .d (.bool true), .d (.bool false), .d (.int 0), .d (.int 1), .d (.int (-1)), .d (.int 60), .d (.int 61), .d (.str ""), .d (.str "table"), .d (.tuple []), .obj M.length, .obj (M.length + 1), .d (.tuple [.tuple []]), .d (.tuple [.int 0, .int 0, .int 0, .int 1]), .d (.tuple [.int 1, .int 0, .int 0, .int 1])]
end
end K51
namespace K51
open PySem PySem.Spec PyProof.Rows L2 Sa Va Gn
open Lx (HandX)
open Lw (Upd)
section
variable {h l B : Nat} {d : PyData}
theorem intA_sub {a b : List PyData} (h : intA B a = true) (s : ∀ d ∈ b, d ∈ a) : intA B b = true := by
  rw [intA_all] at h ⊢
  exact fun d hd => h d (s d hd)
theorem txt_num (i : Int) (hi : i.natAbs <= 1000000) : txt (.str (toString i)) <= 132 := by
  have l : (Str.ofString (toString i)).length <= 13 := PyData.shown_int_le2 (by omega) (by omega)
  have r := PySem.StrLaws.reprText_len (toString i) fun c hc => by
    have hc' : c ∈ ((toString i).toList.map fun c => c.toNat) := by rw [Str.ofString_eq_toList] at hc; simpa using hc
    obtain ⟨ch, _, rfl⟩ := List.mem_map.mp hc'
    exact Nat.lt_of_lt_of_le ch.val.toNat_lt (by decide)
  simp only [txt, PyData.shown]
  omega
end
end K51
namespace K51
open PySem PySem.Spec PyProof.Rows L2 Sa Va Gn
open Lx (HandX)
open Lw (Upd)
end K51
namespace K51
open PySem PySem.Spec PyProof.Rows L2 Sa Va Gn
open Lx (HandX)
open Lw (Upd)
section
variable {k h : Nat} {d : PyData} {ds : List PyData}
theorem cut_to {α : Type} (xs : List α) (k : Nat) (h : k <= xs.length) : cutG xs none (some (k : Int)) = xs.take k := by
  unfold cutG
  rw [HT.sIx_nat, HT.sIx_none, Nat.min_eq_left h]
  simp
theorem cut_from {α : Type} (xs : List α) (k : Nat) (h : k <= xs.length) : cutG xs (some (k : Int)) none = xs.drop k := by
  unfold cutG
  rw [HT.sIx_nat, HT.sIx_none, Nat.min_eq_left h]
  exact List.take_of_length_le (by simp)
theorem txts_at : ∀ {ds : List PyData} {i : Nat} (h : i < ds.length), txts (ds.take i) + (txt ds[i] + 2) + txts (ds.drop (i + 1)) = txts ds
  | d :: ds, 0, h => by simp [txts]
  | d :: ds, i + 1, h => by
    have := txts_at (ds := ds) (i := i) (by simpa using h)
    simp only [List.take_succ_cons, txts, List.getElem_cons_succ, List.drop_succ_cons]
    omega
theorem g_bent_eq (self : Fn) : g__law_bent self = (sSeq (sIf (tAndE (tVal (eIsi "tuple" (eVar 1))) (tAndE (tVal (eOp oNeE (eVar 1) (eTup aNil))) (tVal (eOp oGt (eDef 2 (K53.F__law_take) (aCons (eVar 0) (aCons (eC (.int 5)) aNil))) (eC (.int 0)))))) (sSeq (sSet 2 (eDef 2 (K53.F__law_take) (aCons (eVar 0) (aCons (eCall fLen (aCons (eVar 1) aNil)) aNil))))
    (sRet (eOp oAddG (eOp oAddG (eSlTv pN (pE (eVar 2)) (eVar 1)) (eTup (aCons (eDef 2 self (aCons (eVar 0) (aCons (eOp oIx (eVar 1) (eVar 2)) aNil))) aNil))) (eSlTv (pE (eOp oAddG (eVar 2) (eC (.int 1)))) pN (eVar 1))))) sNil)
    (sRet (eDef 2 (F__law_odd) (aCons (eVar 0) (aCons (eVar 1) aNil))))) := rfl
end
end K51
namespace K06
open PySem PySem.Spec PyProof.Rows L2 Sa Va Gn Pg Lx Tr
open Lw (Upd GoodS cm_left cm_right size_pos size_le DrawnH)
open K51 (head_is tup_mkTup)
/-- how far a number may go -/
def scl (S : Simple) (sc : Int) : Int := if S.isRest = true then sizeM S else sc * sizeM S
def low (S : Simple) (sc : Int) : Int := if S.isRest = true then 0 else -(sc * sizeM S)
def memH (S : Simple) : PyData -> Bool
  | .tuple [.bool l, .int n, .bool w] => (decide (low S 1 <= n) && decide (n <= scl S 1)) && (!l || decide (w = saysM S n))
  | _ => false
def noteH (S : Simple) : PyData -> Bool
  | .tuple [.bool _, .int n] => decide (low S 2 <= n) && decide (n <= scl S 2)
  | _ => false
def allH (f : Simple -> PyData -> Bool) (Ss : List Simple) (hs : List PyData) : Bool := decide (hs.length = Ss.length) && (Ss.zip hs).all fun t => f t.1 t.2
def blankD : PyData -> Bool
  | .tuple [.bool l, .int n] => decide (l = false) && decide (n = 0)
  | _ => false
def memD (Ss : List Simple) (kk : Nat) : PyData -> Bool
  | .tuple [.str z, s, .tuple hs] => decide (z = "member") && wholeD 0 ((kk : Int) - 1) s && allH memH Ss hs
  | _ => false
def noteD (Ss : List Simple) : PyData -> Bool
  | .tuple [.str z, .tuple hs] => decide (z = "note") && (allH noteH Ss hs && !(hs.all blankD))
  | _ => false
section
variable {av : Nat -> Bool} {M : Mem} {k kk : Nat} {w : W} {ws : List W} {d : PyData} {ds : List PyData} {n : Int} {S : Simple}
theorem borne_x (g : GoodS S kk) (hk : 0 < kk) (r : Rd av M k w d) {sc : Int} (s0 : sc = 1 ∨ sc = 2) : K07.F_is_borne [.d (sD S), w, .d (.int sc)] M = some (.d (.bool (wholeD (low S sc) (scl S sc) d)), M) := by
  have si := fun M => F_size_of_eq (M := M) (g.wf hk)
  have wi : ∀ lo hi : Int, K07.F_is_whole_within [w, .d (.int lo), .d (.int hi)] M = some (.d (.bool (wholeD lo hi d)), M) := fun lo hi => within_x r
  cases S with
  | sum ws c =>
    have ne : ¬ (Str.ofString "sum" = Str.ofString "rest") := by decide +kernel
    simp only [low, scl, Simple.isRest, Bool.false_eq_true, if_false]
    generalize sizeM (.sum ws c) = z at *
    have sb : -(2 ^ 64) < sc /\ sc < 2 ^ 64 := by rcases s0 with rfl | rfl <;> decide
    have sb' : -(2 ^ 64) < -sc /\ -sc < 2 ^ 64 := by rcases s0 with rfl | rfl <;> decide
    have m1 : CMul (-sc) z := cm_left sb'
    have m2 : CMul sc z := cm_left sb
    have ml : -sc * z = -(sc * z) := Int.neg_mul sc z
    simp only [sD] at si ⊢
    simp [K07.F_is_borne, nf, fnV, K07.g_is_borne, si, ne, x_mul m1, x_mul m2, wi, ml]
  | rest ws r m =>
    simp only [low, scl, Simple.isRest, if_true]
    generalize sizeM (.rest ws r m) = z at *
    simp only [sD] at si ⊢
    simp [K07.F_is_borne, nf, fnV, K07.g_is_borne, si, wi]
theorem three {ds : List PyData} (h : ds.length = 3) : ∃ a b c, ds = [a, b, c] := by
  match ds, h with
  | [a, b, c], _ => exact ⟨a, b, c, rfl⟩
theorem two {ds : List PyData} (h : ds.length = 2) : ∃ a b, ds = [a, b] := by
  match ds, h with
  | [a, b], _ => exact ⟨a, b, rfl⟩
theorem memH_not {ds : List PyData} (h : ds.length ≠ 3) : memH S (.tuple ds) = false := by
  unfold memH
  split
  · rename_i e; cases e; exact absurd rfl h
  · rfl
theorem noteH_not {ds : List PyData} (h : ds.length ≠ 2) : noteH S (.tuple ds) = false := by
  unfold noteH
  split
  · rename_i e; cases e; exact absurd rfl h
  · rfl
theorem mem_hold_x (g : GoodS S kk) (hk : 0 < kk) (r : Rd av M k w d) : K07.F_is_member_hold [.d (sD S), w] M = some (.d (.bool (memH S d)), M) := by
  have e1 := tuple_of_x (n := 3) r
  cases d with
  | tuple ds =>
    by_cases hl : ds.length = 3
    · obtain ⟨a, b, c, rfl⟩ := three hl
      obtain ⟨ws, hw, m, _, q⟩ := r.isTup
      cases q with | @cons x0 _ _ _ r0 q => cases q with | @cons x1 _ _ _ r1 q => cases q with | @cons x2 _ _ _ r2 q =>
      cases q
      have e1' : Pg.F_is_tuple_of [w, .d (.int 3)] M = some (.d (.bool true), M) := e1
      have b0 := isi_rd (T := "bool") (a := eVar 2) (ρ := [some (.d (sD S)), some w, some x0, some x1, some x2]) r0 (by simp)
      have b2 := isi_rd (T := "bool") (a := eVar 4) (ρ := [some (.d (sD S)), some w, some x0, some x1, some x2]) r2 (by simp)
      rw [kd_bool] at b0 b2
      have bo := borne_x (sc := 1) g hk r1 (.inl rfl)
      have bo : K07.F_is_borne [.d (sD S), x1, .d (.int 1)] M = _ := bo
      have sy := fun n => F_says_eq (M := M) (S := S) (n := n)
      generalize sD S = sd at *
      cases a with
      | bool l =>
        cases r0.bool_eq
        cases c with
        | bool v =>
          cases r2.bool_eq
          cases b with
          | int z =>
            cases r1.int_eq
            simp only [wholeD] at bo
            cases hb : (decide (low S 1 <= z) && decide (z <= scl S 1)) with
            | false =>
              rw [hb] at bo
              simp [K07.F_is_member_hold, nf, fnV, K07.g_is_member_hold, e1', hw, b0, b2, isBoolD, bo, memH, hb, -x_isi]
            | true =>
              rw [hb] at bo
              have sz := sy z
              generalize hs : saysM S z = sw at sz
              cases l <;> simp [K07.F_is_member_hold, nf, fnV, K07.g_is_member_hold, e1', hw, b0, b2, isBoolD, bo, sz, memH, hb, hs, -x_isi]
          | _ =>
            have bo : K07.F_is_borne [.d sd, x1, .d (.int 1)] M = some (.d (.bool false), M) := bo
            simp [K07.F_is_member_hold, nf, fnV, K07.g_is_member_hold, e1', hw, b0, b2, isBoolD, bo, memH, -x_isi]
        | _ => simp [K07.F_is_member_hold, nf, fnV, K07.g_is_member_hold, e1', hw, b0, b2, isBoolD, memH, -x_isi]
      | _ => simp [K07.F_is_member_hold, nf, fnV, K07.g_is_member_hold, e1', hw, b0, isBoolD, memH, -x_isi]
    · have l3 : ¬ ((ds.length : Int) = 3) := by omega
      have e1' : Pg.F_is_tuple_of [w, .d (.int 3)] M = some (.d (.bool false), M) := by rw [e1]; simp [lenD, l3]
      rw [memH_not hl]
      simp [K07.F_is_member_hold, nf, fnV, K07.g_is_member_hold, e1']
  | _ => simp [K07.F_is_member_hold, nf, fnV, K07.g_is_member_hold, e1, lenD, memH]
theorem note_hold_x (g : GoodS S kk) (hk : 0 < kk) (r : Rd av M k w d) : K07.F_is_note_hold [.d (sD S), w] M = some (.d (.bool (noteH S d)), M) := by
  have e1 := tuple_of_x (n := 2) r
  cases d with
  | tuple ds =>
    by_cases hl : ds.length = 2
    · obtain ⟨a, b, rfl⟩ := two hl
      obtain ⟨ws, hw, m, _, q⟩ := r.isTup
      obtain ⟨x0, _, r0, i0⟩ := ix_rd (j := 0) q hw (by simp)
      obtain ⟨x1, _, r1, i1⟩ := ix_rd (j := 1) q hw (by simp)
      simp only [List.getElem_cons_succ, List.getElem_cons_zero] at r0 r1
      have i0' : oIx w (.d (.int 0)) M = some (x0, M) := i0 M
      have i1' : oIx w (.d (.int 1)) M = some (x1, M) := i1 M
      have e1' : Pg.F_is_tuple_of [w, .d (.int 2)] M = some (.d (.bool true), M) := e1
      have b0 := isi_rd (T := "bool") (a := eOp oIx (eVar 1) (eC (.int 0))) (ρ := [some (.d (sD S)), some w]) r0 (by simpa using i0')
      rw [kd_bool] at b0
      have bo : K07.F_is_borne [.d (sD S), x1, .d (.int 2)] M = _ := borne_x (sc := 2) g hk r1 (.inr rfl)
      generalize sD S = sd at *
      cases a with
      | bool l =>
        cases b with
        | int z =>
          simp only [wholeD] at bo
          simp [K07.F_is_note_hold, nf, fnV, K07.g_is_note_hold, e1', b0, i1', isBoolD, bo, noteH, -x_isi, -x_ix]
        | _ =>
          have bo : K07.F_is_borne [.d sd, x1, .d (.int 2)] M = some (.d (.bool false), M) := bo
          simp [K07.F_is_note_hold, nf, fnV, K07.g_is_note_hold, e1', b0, i1', isBoolD, bo, noteH, -x_isi, -x_ix]
      | _ => simp [K07.F_is_note_hold, nf, fnV, K07.g_is_note_hold, e1', b0, isBoolD, noteH, -x_isi, -x_ix]
    · have l3 : ¬ ((ds.length : Int) = 2) := by omega
      have e1' : Pg.F_is_tuple_of [w, .d (.int 2)] M = some (.d (.bool false), M) := by rw [e1]; simp [lenD, l3]
      rw [noteH_not hl]
      simp [K07.F_is_note_hold, nf, fnV, K07.g_is_note_hold, e1']
  | _ => simp [K07.F_is_note_hold, nf, fnV, K07.g_is_note_hold, e1, lenD, noteH]
end
end K06
namespace K06
open PySem PySem.Spec PyProof.Rows L2 Sa Va Gn Pg Lx Tr
open Lw (Upd GoodS cm_left cm_right size_pos size_le DrawnH)
open K51 (head_is tup_mkTup)
section
variable {av : Nat -> Bool} {M : Mem} {k kk : Nat} {w : W} {ws us : List W} {d : PyData} {ds hs : List PyData} {n : Int} {S : Simple} {Ss : List Simple} {y : Say}
theorem zip_say : ∀ (Ss : List Simple) (ps : List (W × PyData)), zip2W (Ss.map fun S => W.d (sD S)) (ps.map (·.1)) = (Ss.zip ps).map fun q => mkTup [.d (sD q.1), q.2.1]
  | [], ps => by cases ps <;> simp [zip2W]
  | _ :: _, [] => by simp [zip2W]
  | S :: Ss, p :: ps => by simp only [List.map_cons, zip2W, List.zip_cons_cons, zip_say Ss ps]
theorem all_zip (f : Simple -> PyData -> Bool) (Ss : List Simple) (ps : List (W × PyData)) : ((Ss.zip ps).all fun q => f q.1 q.2.2) = (Ss.zip (ps.map (·.2))).all fun t => f t.1 t.2 := by
  rw [List.zip_map_right, List.all_map]
  rfl
/-- all of the holds -/
theorem gen_zip {e : EvE} {f : Simple -> PyData -> Bool} {v0 v1 v2 : Option W} (q : RdA av M k us hs) (few : Ss.length <= 1000) (turn : ∀ S x d, S ∈ Ss -> Rd av M k x d -> e [v0, v1, v2, some (.d (sD S)), some x] M = some (.d (.bool (f S d)), M)) :
    gaL true [] (gT 2 (gsC (gN 3) (gsC (gN 4) gs0))) tTrue e [v0, v1, v2, none, none] sizeLine (zip2W (Ss.map fun S => W.d (sD S)) us) M = some ((Ss.zip hs).all fun t => f t.1 t.2, M) := by
  obtain ⟨ps, h1, h2, h3⟩ := q.pairs
  have := ga_all (deps := []) (g := gT 2 (gsC (gN 3) (gsC (gN 4) gs0))) (t := tTrue) (e := e) (ρ0 := [v0, v1, v2, none, none]) (M := M) (fun q : Simple × (W × PyData) => mkTup [.d (sD q.1), q.2.1]) (fun q => f q.1 q.2.2) (by simp [Deps]) (Ss.zip ps) sizeLine
    (by rw [List.length_zip]; exact Nat.le_trans (by omega : min Ss.length ps.length <= 1000) (by decide)) fun q hq => by
      have m1 := (List.of_mem_zip hq).1
      have m2 := h3 _ (List.of_mem_zip hq).2
      exact ⟨[v0, v1, v2, some (.d (sD q.1)), some q.2.1], by simp [tup_mkTup], rfl, turn q.1 q.2.1 q.2.2 m1 m2⟩
  rw [<- zip_say, h1] at this
  rw [this, all_zip, h2]
theorem zip_it {v0 v1 v2 : Option W} {a b : EvE} {M : Mem} {x : W} (ha : a [v0, v1, v2, none, none] M = some (.d (.tuple (Ss.map sD)), M)) (hb : b [v0, v1, v2, none, none] M = some (x, M)) (hu : tupOf x = some us) (len : us.length = Ss.length) :
    iZip2W (aCons a (aCons b aNil)) [v0, v1, v2, none, none] M = some ((zip2W (Ss.map fun S => W.d (sD S)) us, []), M) := by
  have s2 := src_tup (M := M) hu
  have s1 : srcOf M (.d (.tuple (Ss.map sD))) = some (Ss.map fun S => W.d (sD S), []) := by
    have := src_tup (M := M) (w := .d (.tuple (Ss.map sD))) (ws := (Ss.map sD).map W.d) rfl
    rw [this, List.map_map]
    rfl
  simp [iZip2W, ha, hb, s1, s2, len]
/-- holds that a note may have are plain -/
theorem noteH_is {S : Simple} (h : noteH S d = true) : ∃ l n, d = .tuple [.bool l, .int n] := by
  unfold noteH at h
  split at h
  · exact ⟨_, _, rfl⟩
  · cases h
theorem notes_are : ∀ {Ss : List Simple} {hs : List PyData}, hs.length = Ss.length -> ((Ss.zip hs).all fun t => noteH t.1 t.2) = true -> ∃ ns : List (Bool × Int), hs = ns.map nD
  | [], [], _, _ => ⟨[], rfl⟩
  | S :: Ss, h :: hs, len, a => by
    simp only [List.zip_cons_cons, List.all_cons, Bool.and_eq_true] at a
    obtain ⟨l, n, rfl⟩ := noteH_is a.1
    obtain ⟨ns, rfl⟩ := notes_are (Ss := Ss) (hs := hs) (by simpa using len) a.2
    exact ⟨(l, n) :: ns, rfl⟩
  | _ :: _, [], len, _ => by simp at len
  | [], _ :: _, len, _ => by simp at len
theorem plain_ns : ∀ ns : List (Bool × Int), plainA (ns.map nD) = true
  | [] => rfl
  | p :: ns => by simp [plainA, plainD, nD, plain_ns ns]
theorem blank_ns (ns : List (Bool × Int)) : (ns.map nD).all blankD = ns.all isNo := by
  rw [List.all_map]
  congr 1
  funext p
  obtain ⟨b, n⟩ := p
  cases b <;> simp [blankD, nD, isNo]
theorem mem_state_x (sd : SaidX y Ss kk) (r : Rd av M k w d) : K07.F_is_member_state [.d (yD y), w] M = some (.d (.bool (memD Ss kk d)), M) := by
  have e1 : Pg.F_is_headed [w, .d (.str "member"), .d (.int 3)] M = _ := headed_x (x := "member") (n := 3) (by decide) r
  have so := K07.sorts_eq (M := M) sd
  have si := sd.simples (M := M)
  have sl := sd.len
  cases hh : headD "member" 3 d with
  | false =>
    rw [hh] at e1
    have tf : memD Ss kk d = false := by
      unfold memD
      split
      · rename_i z s hs
        have : decide (z = "member") = false := by
          cases hz : decide (z = "member") with
          | false => rfl
          | true =>
            simp only [headD, List.length_cons, List.length_nil, hz, Bool.and_true] at hh
            exact absurd hh (by decide)
        rw [this]
        rfl
      · rfl
    rw [tf]
    generalize yD y = yd at *
    simp [K07.F_is_member_state, nf, fnV, K07.g_is_member_state, e1]
  | true =>
    rw [hh] at e1
    obtain ⟨ds, hd, hl⟩ := head_is hh
    subst hd
    obtain ⟨s, hs, rfl⟩ := two (by omega : ds.length = 2)
    obtain ⟨ws, hw, m, _, q⟩ := r.isTup
    obtain ⟨x1, _, r1, i1⟩ := ix_rd (j := 1) q hw (by simp)
    obtain ⟨x2, _, r2, i2⟩ := ix_rd (j := 2) q hw (by simp)
    simp only [List.getElem_cons_succ, List.getElem_cons_zero] at r1 r2
    have i1' : oIx w (.d (.int 1)) M = some (x1, M) := i1 M
    have i2' : oIx w (.d (.int 2)) M = some (x2, M) := i2 M
    have wi : K07.F_is_whole_within [x1, .d (.int 0), .d (.int ((kk : Int) - 1))] M = some (.d (.bool (wholeD 0 ((kk : Int) - 1) s)), M) := within_x r1
    have tu := tuple_of_x (n := (Ss.length : Int)) r2
    have tt : memD Ss kk (.tuple [.str "member", s, hs]) = (wholeD 0 ((kk : Int) - 1) s && (match hs with | .tuple hs => allH memH Ss hs | _ => false)) := by
      cases hs <;> simp [memD]
    have tt' : memD Ss kk (.tuple (.str "member" :: [s, hs])) = _ := tt
    rw [tt']
    cases hs with
    | tuple hs =>
      obtain ⟨us, hu, _, _, qu⟩ := r2.isTup
      have gz := gen_zip (e := eDef 2 K07.F_is_member_hold (aCons (eVar 3) (aCons (eVar 4) aNil))) (f := memH) (v0 := some (.d (yD y))) (v1 := some w) (v2 := some (.d (.tuple (Ss.map sD)))) (Ss := Ss) qu (by omega) fun S x d hS rx => by
        have := mem_hold_x (sd.goodS S hS) sd.pos rx
        generalize sD S = q at *
        simp [this]
      have ln : ∀ N, eCall fLen (aCons (eVar 2) aNil) [some (.d (yD y)), some w, some (.d (.tuple (Ss.map sD))), none, none] N = some (.d (.int (Ss.length : Int)), N) := fun N => by simp
      generalize hyd : yD y = yd at *
      by_cases hlen : hs.length = Ss.length
      · have zi := zip_it (M := M) (a := eVar 2) (b := eOp oIx (eVar 1) (eC (.int 2))) (v0 := some (.d yd)) (v1 := some w) (v2 := some (.d (.tuple (Ss.map sD)))) (Ss := Ss) (x := x2) (by simp) (by simpa using i2') hu (by rw [qu.length, hlen])
        have tu' : Pg.F_is_tuple_of [x2, .d (.int (Ss.length : Int))] M = some (.d (.bool true), M) := by rw [tu]; simp [lenD, hlen]
        have ah : allH memH Ss hs = (Ss.zip hs).all fun t => memH t.1 t.2 := by simp [allH, hlen]
        simp only [ah]
        generalize PyData.tuple (Ss.map sD) = sds at *
        generalize ((Ss.zip hs).all fun t => memH t.1 t.2) = A at *
        cases hb : wholeD 0 ((kk : Int) - 1) s with
        | false =>
          rw [hb] at wi
          simp [K07.F_is_member_state, nf, fnV, K07.g_is_member_state, e1, i1', so, wi, -x_ix]
        | true =>
          rw [hb] at wi
          simp [K07.F_is_member_state, nf, fnV, K07.g_is_member_state, e1, i1', i2', so, wi, si, ln, tu', eAllX, zi, gz, -x_ix, -x_call]
      · have tu' : Pg.F_is_tuple_of [x2, .d (.int (Ss.length : Int))] M = some (.d (.bool false), M) := by rw [tu]; simp [lenD]; omega
        have ah : allH memH Ss hs = false := by simp [allH, hlen]
        simp only [ah]
        generalize PyData.tuple (Ss.map sD) = sds at *
        cases hb : wholeD 0 ((kk : Int) - 1) s with
        | false =>
          rw [hb] at wi
          simp [K07.F_is_member_state, nf, fnV, K07.g_is_member_state, e1, i1', so, wi, -x_ix]
        | true =>
          rw [hb] at wi
          simp [K07.F_is_member_state, nf, fnV, K07.g_is_member_state, e1, i1', i2', so, wi, si, ln, tu', -x_ix, -x_call]
    | _ =>
      have tu' : Pg.F_is_tuple_of [x2, .d (.int (Ss.length : Int))] M = some (.d (.bool false), M) := tu
      have ln : ∀ N, eCall fLen (aCons (eVar 2) aNil) [some (.d (yD y)), some w, some (.d (.tuple (Ss.map sD))), none, none] N = some (.d (.int (Ss.length : Int)), N) := fun N => by simp
      generalize hyd : yD y = yd at *
      generalize PyData.tuple (Ss.map sD) = sds at *
      cases hb : wholeD 0 ((kk : Int) - 1) s with
      | false =>
        rw [hb] at wi
        simp [K07.F_is_member_state, nf, fnV, K07.g_is_member_state, e1, i1', so, wi, -x_ix]
      | true =>
        rw [hb] at wi
        simp [K07.F_is_member_state, nf, fnV, K07.g_is_member_state, e1, i1', i2', so, wi, si, ln, tu', -x_ix, -x_call]
end
end K06
namespace K06
open PySem PySem.Spec PyProof.Rows L2 Sa Va Gn Pg Lx Tr
open Lw (Upd GoodS cm_left cm_right size_pos size_le DrawnH)
open K51 (head_is tup_mkTup)
section
variable {av : Nat -> Bool} {M : Mem} {k kk : Nat} {w : W} {ws us : List W} {d : PyData} {ds hs : List PyData} {n : Int} {S : Simple} {Ss : List Simple} {y : Say}
theorem one {ds : List PyData} (h : ds.length = 1) : ∃ a, ds = [a] := by
  match ds, h with
  | [a], _ => exact ⟨a, rfl⟩
theorem note_state_x (sd : SaidX y Ss kk) (r : Rd av M k w d) : K07.F_is_note_state [.d (yD y), w] M = some (.d (.bool (noteD Ss d)), M) := by
  have e1 : Pg.F_is_headed [w, .d (.str "note"), .d (.int 2)] M = _ := headed_x (x := "note") (n := 2) (by decide) r
  have si := sd.simples (M := M)
  have sl := sd.len
  cases hh : headD "note" 2 d with
  | false =>
    rw [hh] at e1
    have tf : noteD Ss d = false := by
      unfold noteD
      split
      · rename_i z hs
        have : decide (z = "note") = false := by
          cases hz : decide (z = "note") with
          | false => rfl
          | true =>
            simp only [headD, List.length_cons, List.length_nil, hz, Bool.and_true] at hh
            exact absurd hh (by decide)
        rw [this]
        rfl
      · rfl
    rw [tf]
    generalize yD y = yd at *
    simp [K07.F_is_note_state, nf, fnV, K07.g_is_note_state, e1]
  | true =>
    rw [hh] at e1
    obtain ⟨ds, hd, hl⟩ := head_is hh
    subst hd
    obtain ⟨hs, rfl⟩ := one (by omega : ds.length = 1)
    obtain ⟨ws, hw, m, _, q⟩ := r.isTup
    obtain ⟨x1, _, r1, i1⟩ := ix_rd (j := 1) q hw (by simp)
    simp only [List.getElem_cons_succ, List.getElem_cons_zero] at r1
    have i1' : oIx w (.d (.int 1)) M = some (x1, M) := i1 M
    have tu := tuple_of_x (n := (Ss.length : Int)) r1
    have ln : ∀ N, eCall fLen (aCons (eVar 2) aNil) [some (.d (yD y)), some w, some (.d (.tuple (Ss.map sD))), none, none] N = some (.d (.int (Ss.length : Int)), N) := fun N => by simp
    cases hs with
    | tuple hs =>
      have tt : noteD Ss (.tuple (.str "note" :: [.tuple hs])) = (allH noteH Ss hs && !(hs.all blankD)) := by simp [noteD]
      rw [tt]
      obtain ⟨us, hu, _, _, qu⟩ := r1.isTup
      have gz := gen_zip (e := eDef 2 K07.F_is_note_hold (aCons (eVar 3) (aCons (eVar 4) aNil))) (f := noteH) (v0 := some (.d (yD y))) (v1 := some w) (v2 := some (.d (.tuple (Ss.map sD)))) (Ss := Ss) qu (by omega) fun S x d hS rx => by
        have := note_hold_x (sd.goodS S hS) sd.pos rx
        generalize sD S = q at *
        simp [this]
      generalize hyd : yD y = yd at *
      by_cases hlen : hs.length = Ss.length
      · have zi := zip_it (M := M) (a := eVar 2) (b := eOp oIx (eVar 1) (eC (.int 1))) (v0 := some (.d yd)) (v1 := some w) (v2 := some (.d (.tuple (Ss.map sD)))) (Ss := Ss) (x := x1) (by simp) (by simpa using i1') hu (by rw [qu.length, hlen])
        have tu' : Pg.F_is_tuple_of [x1, .d (.int (Ss.length : Int))] M = some (.d (.bool true), M) := by rw [tu]; simp [lenD, hlen]
        have ah : allH noteH Ss hs = (Ss.zip hs).all fun t => noteH t.1 t.2 := by simp [allH, hlen]
        rw [ah]
        generalize PyData.tuple (Ss.map sD) = sds at *
        cases hA : ((Ss.zip hs).all fun t => noteH t.1 t.2) with
        | false =>
          rw [hA] at gz
          simp [K07.F_is_note_state, nf, fnV, K07.g_is_note_state, e1, i1', si, ln, tu', eAllX, zi, gz, -x_ix, -x_call]
        | true =>
          rw [hA] at gz
          obtain ⟨ns, rfl⟩ := notes_are hlen hA
          have hx : x1 = .d (.tuple (ns.map nD)) := r1.plain (by simp only [plainD]; exact plain_ns ns)
          subst hx
          have bl := F_is_blank_eq (M := M) (ns := ns) (by simp at hlen; omega)
          rw [blank_ns]
          generalize PyData.tuple (ns.map nD) = nd at *
          simp [K07.F_is_note_state, nf, fnV, K07.g_is_note_state, e1, i1', si, ln, tu', eAllX, zi, gz, bl, -x_ix, -x_call]
      · have tu' : Pg.F_is_tuple_of [x1, .d (.int (Ss.length : Int))] M = some (.d (.bool false), M) := by rw [tu]; simp [lenD]; omega
        have ah : allH noteH Ss hs = false := by simp [allH, hlen]
        rw [ah]
        generalize PyData.tuple (Ss.map sD) = sds at *
        simp [K07.F_is_note_state, nf, fnV, K07.g_is_note_state, e1, i1', si, ln, tu', -x_ix, -x_call]
    | _ =>
      have tu' : Pg.F_is_tuple_of [x1, .d (.int (Ss.length : Int))] M = some (.d (.bool false), M) := tu
      generalize hyd : yD y = yd at *
      generalize PyData.tuple (Ss.map sD) = sds at *
      simp [K07.F_is_note_state, nf, fnV, K07.g_is_note_state, e1, i1', si, ln, tu', noteD, -x_ix, -x_call]
/-- a state or none -/
def stateD (Ss : List Simple) (kk : Nat) (d : PyData) : Bool := memD Ss kk d || noteD Ss d
theorem state_x (sd : SaidX y Ss kk) (r : Rd av M k w d) : K07.F_is_state [.d (yD y), w] M = some (.d (.bool (stateD Ss kk d)), M) := by
  have e1 := mem_state_x sd r
  have e2 := note_state_x sd r
  unfold stateD
  generalize yD y = yd at *
  cases hm : memD Ss kk d with
  | true =>
    rw [hm] at e1
    simp [K07.F_is_state, nf, fnV, K07.g_is_state, e1]
  | false =>
    rw [hm] at e1
    simp [K07.F_is_state, nf, fnV, K07.g_is_state, e1, e2]
end
end K06
namespace K06
open PySem PySem.Spec PyProof.Rows L2 Sa Va Gn Pg Lx Tr
open Lw (Upd GoodS cm_left cm_right size_pos size_le DrawnH)
open K51 (head_is tup_mkTup)
section
variable {av : Nat -> Bool} {M : Mem} {k kk : Nat} {w : W} {ws : List W} {d : PyData} {ds hs : List PyData} {n : Int} {S : Simple}
/-- how great a number may be, by the look -/
noncomputable def Esz : EvE := (eOp oMul (eDef 1 (K07.F__law_size) (aCons (eVar 0) aNil)) (eOp oIx (eLst (aCons (eC (.int 1)) (aCons (eC (.int 2)) aNil))) (eCall fInt (aCons (eAnd (eVar 2) (eOp oEq (eOp oIx (eVar 0) (eC (.int 0))) (eC (.str "sum")))) aNil))))
noncomputable def Tbd : EvT := (tVal (eCh oLe oLe (eOp oIx (eLst (aCons (eOp oSub (eC (.int 0)) (eVar 3)) (aCons (eC (.int 0)) aNil))) (eCall fInt (aCons (eOp oEq (eOp oIx (eVar 0) (eC (.int 0))) (eC (.str "rest"))) aNil))) (eOp oIx (eVar 1) (eC (.int 1))) (eVar 3)))
def mul (b : Bool) : Int := if b = true then 2 else 1
theorem esz_x (g : GoodS S kk) (hk : 0 < kk) {b : Bool} {v : Option W} : ∃ J, Esz [some (.d (sD S)), some w, some (.d (.bool b)), v] M = some (.d (.int (scl S (mul b))), M ++ J) := by
  have sz := fun N => K07.size_eq (M := N) g hk
  have s0 := size_le (S := S) g hk
  refine ⟨[.lst [.d (.int 1), .d (.int 2)]], ?_⟩
  cases S with
  | sum ws c =>
    simp only [scl, Simple.isRest, Bool.false_eq_true, if_false]
    generalize sizeM (.sum ws c) = z at *
    have m1 : CMul z 1 := cm_right (by decide)
    have m2 : CMul z 2 := cm_right (by decide)
    simp only [sD] at sz ⊢
    cases b <;> simp [Esz, sz, small_size, mul, x_mul m1, x_mul m2, Int.mul_comm]
  | rest ws r m =>
    have ne : ¬ (Str.ofString "rest" = Str.ofString "sum") := by decide +kernel
    simp only [scl, Simple.isRest, if_true]
    generalize sizeM (.rest ws r m) = z at *
    have m1 : CMul z 1 := cm_right (by decide)
    simp only [sD] at sz ⊢
    cases b <;> simp [Esz, sz, small_size, mul, x_mul m1, ne]
theorem tbd_x (sq : ∀ N, seqOf N w = some ws) (ix : atI ws 1 = some (.d (.int n))) {b : Bool} (sc : Int) : ∃ J, Tbd [some (.d (sD S)), some w, some (.d (.bool b)), some (.d (.int (scl S sc)))] M = some (decide (low S sc <= n) && decide (n <= scl S sc), M ++ J) := by
  cases S with
  | sum ws c =>
    have ne : ¬ (Str.ofString "sum" = Str.ofString "rest") := by decide +kernel
    have lo : low (.sum ws c) sc = - scl (.sum ws c) sc := by simp [low, scl, Simple.isRest]
    rw [lo]
    generalize scl (.sum ws c) sc = z at *
    simp only [sD]
    refine ⟨[.lst [.d (.int (-z)), .d (.int 0)]], ?_⟩
    by_cases h : -z <= n
    · simp [Tbd, small_size, sq, ix, ne, h, eCh, oLe, oLt]
    · simp [Tbd, small_size, sq, ix, ne, h, eCh, oLe, oLt]
  | rest ws r m =>
    have lo : low (.rest ws r m) sc = 0 := by simp [low, Simple.isRest]
    rw [lo]
    generalize scl (.rest ws r m) sc = z at *
    simp only [sD]
    refine ⟨[.lst [.d (.int (-z)), .d (.int 0)]], ?_⟩
    by_cases h : 0 <= n
    · simp [Tbd, small_size, sq, ix, h, eCh, oLe, oLt]
    · simp [Tbd, small_size, sq, ix, h, eCh, oLe, oLt]
def wordH (S : Simple) (l : Bool) (z : Int) : PyData -> Bool
  | .bool w => !l || decide (w = saysM S z)
  | _ => false
theorem is_hold_eq : g__law_is_hold = (sSeq (sIf (tOrE (tNotE (tVal (eIsi "tuple" (eVar 1)))) (tOrE (tVal (eOp oNe (eCall fLen (aCons (eVar 1) aNil)) (eOp oSub (eC (.int 3)) (eCall fInt (aCons (eVar 2) aNil))))) (tNotE (tVal (eIsi "bool" (eOp oIx (eVar 1) (eC (.int 0)))))))) (sRet (eC (.bool false))) sNil)
    (sSeq (sIf (tOrE (tNotE (tVal (eIsi "int" (eOp oIx (eVar 1) (eC (.int 1)))))) (tVal (eIsi "bool" (eOp oIx (eVar 1) (eC (.int 1)))))) (sRet (eC (.bool false))) sNil)
    (sSeq (sSet 3 Esz)
    (sSeq (sIf (tNotE Tbd) (sRet (eC (.bool false))) sNil)
    (sRet (eOr (eVar 2) (eAnd (eIsi "bool" (eOp oIx (eVar 1) (eC (.int 2)))) (eOr (eNot (eOp oIx (eVar 1) (eC (.int 0)))) (eOp oEq (eOp oIx (eVar 1) (eC (.int 2))) (eDef 2 (K07.F__law_so) (aCons (eVar 0) (aCons (eOp oIx (eVar 1) (eC (.int 1))) aNil)))))))))))) := rfl
theorem nb_d {b : Bool} {J : Mem} : norm M (W.d (.bool b), M ++ J) = (.d (.bool b), M) := by
  have := norm_d (M := M) (M1 := M) (J := J) (w := .d (.bool b)) rfl .refl
  simpa using this
theorem isH_m (g : GoodS S kk) (hk : 0 < kk) (r : Rd av M k w d) : F__law_is_hold [.d (sD S), w, .d (.bool false)] M = some (.d (.bool (memH S d)), M) := by
  have e1 := isi_rd (T := "tuple") (a := eVar 1) (ρ := [some (.d (sD S)), some w, some (.d (.bool false)), none]) r (by simp)
  rw [kd_tup] at e1
  have so := fun N n => K07.so_eq (M := N) (S := S) (n := n)
  cases d with
  | tuple ds =>
    obtain ⟨ws, hw, m, _, q⟩ := r.isTup
    have sq : ∀ N, seqOf N w = some ws := fun N => seq_tup hw
    have ql := q.length
    by_cases hl : ds.length = 3
    · obtain ⟨a, b, c, rfl⟩ := three hl
      obtain ⟨x0, g0, r0, i0⟩ := ix_rd (j := 0) q hw (by simp)
      obtain ⟨x1, g1, r1, i1⟩ := ix_rd (j := 1) q hw (by simp)
      obtain ⟨x2, g2, r2, i2⟩ := ix_rd (j := 2) q hw (by simp)
      simp only [List.getElem_cons_succ, List.getElem_cons_zero] at r0 r1 r2
      have a0 : atI ws 0 = some x0 := atI_nat' (k := 0) g0
      have a1 : atI ws 1 = some x1 := atI_nat' (k := 1) g1
      have a2 : atI ws 2 = some x2 := atI_nat' (k := 2) g2
      have b0 := isi_rd (T := "bool") (a := eOp oIx (eVar 1) (eC (.int 0))) (ρ := [some (.d (sD S)), some w, some (.d (.bool false)), none]) r0 (by simp [sq, a0])
      have b1 := isi_rd (T := "int") (a := eOp oIx (eVar 1) (eC (.int 1))) (ρ := [some (.d (sD S)), some w, some (.d (.bool false)), none]) r1 (by simp [sq, a1])
      have b1' := isi_rd (T := "bool") (a := eOp oIx (eVar 1) (eC (.int 1))) (ρ := [some (.d (sD S)), some w, some (.d (.bool false)), none]) r1 (by simp [sq, a1])
      have b2 := fun v J => isi_rd (T := "bool") (a := eOp oIx (eVar 1) (eC (.int 2))) (ρ := [some (.d (sD S)), some w, some (.d (.bool false)), v]) (r2.app (J := J)) (by simp [sq, a2])
      rw [kd_bool] at b0 b1'
      rw [kd_int] at b1
      simp only [kd_bool] at b2
      simp only [List.length_cons, List.length_nil] at ql
      cases a with
      | bool l =>
        cases r0.bool_eq
        cases b with
        | int z =>
          cases r1.int_eq
          obtain ⟨J1, s1⟩ := esz_x (M := M) (w := w) (b := false) (v := none) g hk
          obtain ⟨J2, s2⟩ := tbd_x (M := M ++ J1) (S := S) (b := false) sq a1 1
          have m1 : mul false = 1 := rfl
          rw [m1] at s1
          simp only [F__law_is_hold, nf, fnV, is_hold_eq]
          have tt : memH S (.tuple [.bool l, .int z, c]) = ((decide (low S 1 <= z) && decide (z <= scl S 1)) && wordH S l z c) := by
            cases c <;> simp [memH, wordH]
          rw [tt]
          generalize sD S = sd at *
          cases hb : (decide (low S 1 <= z) && decide (z <= scl S 1)) with
          | false =>
            rw [hb] at s2
            have e2 := nb_d (M := M) (b := false) (J := J1 ++ J2)
            simp [e1, sq, ql, b0, b1, b1', isTupD, isBoolD, isIntD, s1, s2, e2, -x_isi]
          | true =>
            rw [hb] at s2
            have so2 := so (M ++ (J1 ++ J2)) z
            have b2' := b2 (some (.d (.int (scl S 1)))) (J1 ++ J2)
            generalize hs : saysM S z = sw at *
            cases c with
            | bool v =>
              cases r2.bool_eq
              have e2 := fun b => nb_d (M := M) (b := b) (J := J1 ++ J2)
              cases l <;> simp [e1, sq, ql, b0, b1, b1', isTupD, isBoolD, isIntD, s1, s2, e2, a0, a1, a2, b2', so2, wordH, hs, -x_isi]
            | _ =>
              have e2 := nb_d (M := M) (b := false) (J := J1 ++ J2)
              simp [e1, sq, ql, b0, b1, b1', isTupD, isBoolD, isIntD, s1, s2, e2, a0, a1, a2, b2', so2, wordH, hs, -x_isi]
        | _ => simp [F__law_is_hold, nf, fnV, g__law_is_hold, e1, sq, ql, b0, b1, b1', isTupD, isBoolD, isIntD, memH, -x_isi]
      | _ => simp [F__law_is_hold, nf, fnV, g__law_is_hold, e1, sq, ql, b0, isTupD, isBoolD, memH, -x_isi]
    · have l3 : ¬ ((ds.length : Int) = 3) := by omega
      rw [memH_not hl]
      simp [F__law_is_hold, nf, fnV, g__law_is_hold, e1, sq, ql, isTupD, l3, -x_isi]
  | _ => simp [F__law_is_hold, nf, fnV, g__law_is_hold, e1, memH, isTupD, -x_isi]
theorem isH_n (g : GoodS S kk) (hk : 0 < kk) (r : Rd av M k w d) : F__law_is_hold [.d (sD S), w, .d (.bool true)] M = some (.d (.bool (noteH S d)), M) := by
  have e1 := isi_rd (T := "tuple") (a := eVar 1) (ρ := [some (.d (sD S)), some w, some (.d (.bool true)), none]) r (by simp)
  rw [kd_tup] at e1
  cases d with
  | tuple ds =>
    obtain ⟨ws, hw, m, _, q⟩ := r.isTup
    have sq : ∀ N, seqOf N w = some ws := fun N => seq_tup hw
    have ql := q.length
    by_cases hl : ds.length = 2
    · obtain ⟨a, b, rfl⟩ := two hl
      obtain ⟨x0, g0, r0, i0⟩ := ix_rd (j := 0) q hw (by simp)
      obtain ⟨x1, g1, r1, i1⟩ := ix_rd (j := 1) q hw (by simp)
      simp only [List.getElem_cons_succ, List.getElem_cons_zero] at r0 r1
      have a0 : atI ws 0 = some x0 := atI_nat' (k := 0) g0
      have a1 : atI ws 1 = some x1 := atI_nat' (k := 1) g1
      have b0 := isi_rd (T := "bool") (a := eOp oIx (eVar 1) (eC (.int 0))) (ρ := [some (.d (sD S)), some w, some (.d (.bool true)), none]) r0 (by simp [sq, a0])
      have b1 := isi_rd (T := "int") (a := eOp oIx (eVar 1) (eC (.int 1))) (ρ := [some (.d (sD S)), some w, some (.d (.bool true)), none]) r1 (by simp [sq, a1])
      have b1' := isi_rd (T := "bool") (a := eOp oIx (eVar 1) (eC (.int 1))) (ρ := [some (.d (sD S)), some w, some (.d (.bool true)), none]) r1 (by simp [sq, a1])
      rw [kd_bool] at b0 b1'
      rw [kd_int] at b1
      simp only [List.length_cons, List.length_nil] at ql
      cases a with
      | bool l =>
        cases r0.bool_eq
        cases b with
        | int z =>
          cases r1.int_eq
          obtain ⟨J1, s1⟩ := esz_x (M := M) (w := w) (b := true) (v := none) g hk
          obtain ⟨J2, s2⟩ := tbd_x (M := M ++ J1) (S := S) (b := true) sq a1 2
          have m1 : mul true = 2 := rfl
          rw [m1] at s1
          simp only [F__law_is_hold, nf, fnV, is_hold_eq]
          have tt : noteH S (.tuple [.bool l, .int z]) = (decide (low S 2 <= z) && decide (z <= scl S 2)) := rfl
          rw [tt]
          generalize sD S = sd at *
          have e2 := fun b => nb_d (M := M) (b := b) (J := J1 ++ J2)
          cases hb : (decide (low S 2 <= z) && decide (z <= scl S 2)) with
          | false =>
            rw [hb] at s2
            simp [e1, sq, ql, b0, b1, b1', isTupD, isBoolD, isIntD, s1, s2, e2, -x_isi]
          | true =>
            rw [hb] at s2
            simp [e1, sq, ql, b0, b1, b1', isTupD, isBoolD, isIntD, s1, s2, e2, -x_isi]
        | _ => simp [F__law_is_hold, nf, fnV, g__law_is_hold, e1, sq, ql, b0, b1, b1', isTupD, isBoolD, isIntD, noteH, -x_isi]
      | _ => simp [F__law_is_hold, nf, fnV, g__law_is_hold, e1, sq, ql, b0, isTupD, isBoolD, noteH, -x_isi]
    · have l3 : ¬ ((ds.length : Int) = 2) := by omega
      rw [noteH_not hl]
      simp [F__law_is_hold, nf, fnV, g__law_is_hold, e1, sq, ql, isTupD, l3, -x_isi]
  | _ => simp [F__law_is_hold, nf, fnV, g__law_is_hold, e1, noteH, isTupD, -x_isi]
end
end K06
namespace K06
open PySem PySem.Spec PyProof.Rows L2 Sa Va Gn Pg Lx Tr
open Lw (Upd GoodS cm_left cm_right size_pos size_le DrawnH)
open K51 (head_is tup_mkTup)
section
variable {av : Nat -> Bool} {M : Mem} {k l j : Nat} {w x : W} {ws us : List W} {d : PyData} {hs : List PyData} {n : Int} {S : Simple} {Ss : List Simple} {ns : List (Bool × Int)}
theorem neq_no (p : Bool × Int) : oNe (.d (nD p)) (.d (.tuple [.bool false, .int 0])) M = some (.d (.bool (!isNo p)), M) := by
  obtain ⟨b, n⟩ := p
  have e : eqD (.tuple [.bool b, .int n]) (.tuple [.bool false, .int 0]) = some (isNo (b, n)) := by
    cases b <;> simp [eqD, SeqAt.shaped, PyData.canLay0, PyData.canLayAll0, PyData.depth, PyData.depthAll, PyData.eqv, PyData.eqvAll, beq_dec, isNo]
  simp [oNe, nD, e]
theorem ne_nil (hi : M[l]? = some (.lst (ns.map fun p => .d (nD p)))) (hj : M[j]? = some (.lst [])) : oNeL (.obj l) (.obj j) M = some (.d (.bool (!ns.isEmpty)), M) := by
  have e1 : deepD M 3 (.obj l) = some (.list (ns.map nD)) := deepD_lst (by rw [hi]; simp)
  have e2 : deepD M 3 (.obj j) = some (.list []) := deepD_lst (by rw [hj]; simp)
  have c : ∀ ns : List (Bool × Int), PyData.canLayAll0 (ns.map nD) = true /\ PyData.depthAll (ns.map nD) <= 2 := by
    intro ns
    induction ns with
    | nil => simp [PyData.canLayAll0, PyData.depthAll]
    | cons p ns ih => simp [PyData.canLayAll0, PyData.depthAll, nD, PyData.canLay0, PyData.depth, ih.1]; omega
  have s1 : SeqAt.shaped (.list (ns.map nD)) = true := by
    have := c ns
    simp [SeqAt.shaped, PyData.canLay0, PyData.depth, this.1]
    omega
  have s2 : SeqAt.shaped (.list []) = true := by decide +kernel
  simp only [oNeL, eqL, e1, e2, Option.bind_some, s1, s2, Bool.and_self, if_true]
  cases ns <;> rfl
/-- a list of those that are something -/
noncomputable def Enn : EvE := (eOp oNeL (eLc (iSeq (eOp oIx (eVar 2) (eC (.int 1)))) (gN 5) (tVal (eOp oNe (eVar 5) (eTup (aCons (eC (.bool false)) (aCons (eC (.int 0)) aNil))))) (eVar 5) [5]) (eLst aNil))
theorem enn_x {v0 v1 v3 v4 v5 : Option W} (ix : oIx w (.d (.int 1)) M = some (.d (.tuple (ns.map nD)), M)) (few : ns.length <= 1000) : ∃ J, Enn [v0, v1, some w, v3, v4, v5] M = some (.d (.bool (!(ns.all isNo))), M ++ J) := by
  have mk : mkTup [W.d (.bool false), .d (.int 0)] = .d (.tuple [.bool false, .int 0]) := rfl
  have sel := K07.lc_selD (deps := []) (M := M) (g := gN 5) (t := tVal (eOp oNe (eVar 5) (eTup (aCons (eC (.bool false)) (aCons (eC (.int 0)) aNil))))) (e := eVar 5) (ρ0 := [v0, v1, some w, v3, v4, none]) (fun p : Bool × Int => .d (nD p)) (fun p => .d (nD p)) (fun p => !isNo p) (by simp) ns [] (by simp; omega) fun p hp => ⟨[v0, v1, some w, v3, v4, some (.d (nD p))], rfl, fun acc => by
    have := neq_no (M := M ++ [.lst acc]) p
    simp [small_size, mk, this]⟩
  simp only [List.nil_append] at sel
  have it : iSeq (eOp oIx (eVar 2) (eC (.int 1))) [v0, v1, some w, v3, v4, v5] M = some ((ns.map fun p => W.d (nD p), []), M) := by
    have := iseq_tup (M := M) (ρ := [v0, v1, some w, v3, v4, v5]) (a := eOp oIx (eVar 2) (eC (.int 1))) (w := .d (.tuple (ns.map nD))) (ws := (ns.map nD).map W.d) (by simpa using ix) rfl
    rw [this, List.map_map]
    rfl
  refine ⟨[.lst ((ns.filter fun p => !isNo p).map fun p => .d (nD p)), .lst []], ?_⟩
  have nn := ne_nil (M := M ++ [.lst ((ns.filter fun p => !isNo p).map fun p => .d (nD p)), .lst []]) (l := M.length) (j := M.length + 1) (ns := ns.filter fun p => !isNo p) (by simp) (by simp)
  have ie : (ns.filter fun p => !isNo p).isEmpty = ns.all isNo := by
    cases h : ns.all isNo with
    | true => rw [List.isEmpty_iff, List.filter_eq_nil_iff]; intro p hp; simp [List.all_eq_true.mp h p hp]
    | false =>
      rw [Bool.eq_false_iff, Ne, List.isEmpty_iff, List.filter_eq_nil_iff]
      intro z
      rw [Bool.eq_false_iff] at h
      exact h (List.all_eq_true.mpr fun p hp => by simpa using z p hp)
  rw [ie] at nn
  simp [Enn, it, sel, nn, small_size, -x_iseqO]
/-- all holds looked at -/
theorem comp_zip {e : EvE} {f : Simple -> PyData -> Bool} {v0 v1 v2 v3 : Option W} (q : RdA av M k us hs) (few : Ss.length <= 1000) (turn : ∀ acc S x d, S ∈ Ss -> Rd av (M ++ [.lst acc]) k x d -> e [v0, v1, v2, v3, some (.d (sD S)), some x] (M ++ [.lst acc]) = some (.d (.bool (f S d)), M ++ [.lst acc])) :
    lcL [] (gT 2 (gsC (gN 4) (gsC (gN 5) gs0))) tTrue e [v0, v1, v2, v3, none, none] M.length (zip2W (Ss.map fun S => W.d (sD S)) us) (M ++ [.lst []]) = some (M ++ [.lst (((Ss.zip hs).map fun t => f t.1 t.2).map fun b => .d (.bool b))]) := by
  obtain ⟨ps, h1, h2, h3⟩ := q.pairs
  have := lc_map (deps := []) (g := gT 2 (gsC (gN 4) (gsC (gN 5) gs0))) (e := e) (ρ0 := [v0, v1, v2, v3, none, none]) (M := M) (Ss.zip ps) (fun q : Simple × (W × PyData) => mkTup [.d (sD q.1), q.2.1]) (fun q => .d (.bool (f q.1 q.2.2))) (fun acc => by simp [Deps])
    (by rw [List.length_zip]; omega) fun q hq => by
      have m1 := (List.of_mem_zip hq).1
      have m2 := h3 _ (List.of_mem_zip hq).2
      exact ⟨[v0, v1, v2, v3, some (.d (sD q.1)), some q.2.1], by simp [tup_mkTup], fun acc => turn acc q.1 q.2.1 q.2.2 m1 m2.app⟩
  rw [<- zip_say, h1] at this
  rw [this, <- h2, List.zip_map_right, List.map_map, List.map_map]
  rfl
theorem allc_x {e : EvE} {f : Simple -> PyData -> Bool} {v0 v1 v2 v3 v4 v5 : Option W} {a b : EvE} (q : RdA av M k us hs) (few : Ss.length <= 1000)
    (ha : a [v0, v1, v2, v3, v4, v5] M = some (.d (.tuple (Ss.map sD)), M)) (hb : b [v0, v1, v2, v3, v4, v5] M = some (x, M)) (hu : tupOf x = some us) (len : us.length = Ss.length)
    (turn : ∀ acc S x d, S ∈ Ss -> Rd av (M ++ [.lst acc]) k x d -> e [v0, v1, v2, v3, some (.d (sD S)), some x] (M ++ [.lst acc]) = some (.d (.bool (f S d)), M ++ [.lst acc])) :
    ∃ J, eCall fAll (aCons (eLc (iZip2W (aCons a (aCons b aNil))) (gT 2 (gsC (gN 4) (gsC (gN 5) gs0))) tTrue e [4, 5]) aNil) [v0, v1, v2, v3, v4, v5] M = some (.d (.bool ((Ss.zip hs).all fun t => f t.1 t.2)), M ++ J) := by
  have s2 := src_tup (M := M) hu
  have s1 : srcOf M (.d (.tuple (Ss.map sD))) = some (Ss.map fun S => W.d (sD S), []) := by
    have := src_tup (M := M) (w := .d (.tuple (Ss.map sD))) (ws := (Ss.map sD).map W.d) rfl
    rw [this, List.map_map]
    rfl
  have zi : iZip2W (aCons a (aCons b aNil)) [v0, v1, v2, v3, v4, v5] M = some ((zip2W (Ss.map fun S => W.d (sD S)) us, []), M) := by
    simp [iZip2W, ha, hb, s1, s2, len]
  have cz := comp_zip (v0 := v0) (v1 := v1) (v2 := v2) (v3 := v3) q few turn
  refine ⟨[.lst (((Ss.zip hs).map fun t => f t.1 t.2).map fun b => .d (.bool b))], ?_⟩
  simp only [x_call, x_acons, x_anil, x_lc, zi, Option.bind_some]
  rw [show wipeW [v0, v1, v2, v3, v4, v5] [4, 5] = [v0, v1, v2, v3, none, none] from rfl, cz]
  simp only [Option.bind_some]
  have e := x_boolsM ((Ss.zip hs).map fun t => f t.1 t.2)
  have gl : (M ++ [MO.lst (((Ss.zip hs).map fun t => f t.1 t.2).map fun b => W.d (.bool b))])[M.length]? = some (.lst (((Ss.zip hs).map fun t => f t.1 t.2).map fun b => W.d (.bool b))) := by simp
  simp only [fAll, x_lstAt gl, Option.bind_some, e, List.all_map]
  rfl
noncomputable def Eal : EvE := (eCall fAll (aCons (eLc (iZip2W (aCons (eVar 0) (aCons (eOp oIx (eVar 2) (eUn oNeg (eC (.int 1)))) aNil))) (gT 2 (gsC (gN 4) (gsC (gN 5) gs0))) tTrue (eDef 3 (F__law_is_hold) (aCons (eVar 4) (aCons (eVar 5) (aCons (eVar 3) aNil)))) [4, 5]) aNil))
theorem is_state_eq : g__law_is_state = (sSeq (sIf (tOrE (tNotE (tVal (eIsi "tuple" (eVar 2)))) (tOrE (tVal (eOp oEqE (eVar 2) (eTup aNil))) (tNotE (tVal (eIsi "str" (eOp oIx (eVar 2) (eC (.int 0)))))))) (sRet (eC (.bool false))) sNil)
    (sSeq (sSet 3 (eOp oEq (eOp oIx (eVar 2) (eC (.int 0))) (eC (.str "note"))))
    (sSeq (sIf (tOrE (tVal (eOp oNotInT (eOp oIx (eVar 2) (eC (.int 0))) (eTup (aCons (eC (.str "member")) (aCons (eC (.str "note")) aNil))))) (tOrE (tVal (eOp oNe (eCall fLen (aCons (eVar 2) aNil)) (eOp oSub (eC (.int 3)) (eCall fInt (aCons (eVar 3) aNil))))) (tNotE (tVal (eIsi "tuple" (eOp oIx (eVar 2) (eUn oNeg (eC (.int 1))))))))) (sRet (eC (.bool false))) sNil)
    (sSeq (sIf (tVal (eOp oNe (eCall fLen (aCons (eOp oIx (eVar 2) (eUn oNeg (eC (.int 1)))) aNil)) (eCall fLen (aCons (eVar 0) aNil)))) (sRet (eC (.bool false))) sNil)
    (sSeq (sIf (tNotE (tVal Eal)) (sRet (eC (.bool false))) sNil)
    (sSeq (sIf (tVal (eVar 3)) (sRet Enn) sNil)
    (sRet (eAnd (eIsi "int" (eOp oIx (eVar 2) (eC (.int 1)))) (eAnd (eNot (eIsi "bool" (eOp oIx (eVar 2) (eC (.int 1))))) (eCh oLe oLt (eC (.int 0)) (eOp oIx (eVar 2) (eC (.int 1))) (eVar 1))))))))))) := rfl
end
end K06
namespace K06
open PySem PySem.Spec PyProof.Rows L2 Sa Va Gn Pg Lx Tr
open Lw (Upd GoodS cm_left cm_right size_pos size_le DrawnH)
open K51 (head_is tup_mkTup)
section
variable {av : Nat -> Bool} {M : Mem} {k kk : Nat} {w x : W} {ws us : List W} {d d0 : PyData} {ds hs : List PyData} {S : Simple} {Ss : List Simple} {ns : List (Bool × Int)}
theorem st_not (h : isStrD d0 = false) : stateD Ss kk (.tuple (d0 :: ds)) = false := by
  have h1 : memD Ss kk (.tuple (d0 :: ds)) = false := by
    unfold memD
    split
    · rename_i e; cases e; cases h
    · rfl
  have h2 : noteD Ss (.tuple (d0 :: ds)) = false := by
    unfold noteD
    split
    · rename_i e; cases e; cases h
    · rfl
  rw [stateD, h1, h2]; rfl
theorem st_other {z : Str} (h1 : z ≠ "member") (h2 : z ≠ "note") : stateD Ss kk (.tuple (.str z :: ds)) = false := by
  have h1 : memD Ss kk (.tuple (.str z :: ds)) = false := by
    unfold memD
    split
    · rename_i e; cases e; simp [h1]
    · rfl
  have h2 : noteD Ss (.tuple (.str z :: ds)) = false := by
    unfold noteD
    split
    · rename_i e; cases e; simp [h2]
    · rfl
  rw [stateD, h1, h2]; rfl
theorem nen : ¬ (Str.ofString "note" = Str.ofString "member") := by decide +kernel
theorem nem : ¬ (Str.ofString "member" = Str.ofString "note") := by decide +kernel
theorem st_mem_not (h : ds.length ≠ 2) : stateD Ss kk (.tuple (.str "member" :: ds)) = false := by
  have h1 : memD Ss kk (.tuple (.str "member" :: ds)) = false := by
    unfold memD
    split
    · rename_i e; cases e; exact absurd rfl h
    · rfl
  have h2 : noteD Ss (.tuple (.str "member" :: ds)) = false := by
    unfold noteD
    split
    · rename_i e; cases e; simp [nem]
    · rfl
  rw [stateD, h1, h2]; rfl
theorem st_note_not (h : ds.length ≠ 1) : stateD Ss kk (.tuple (.str "note" :: ds)) = false := by
  have h1 : memD Ss kk (.tuple (.str "note" :: ds)) = false := by
    unfold memD
    split
    · rename_i e; cases e; simp [nen]
    · rfl
  have h2 : noteD Ss (.tuple (.str "note" :: ds)) = false := by
    unfold noteD
    split
    · rename_i e; cases e; exact absurd rfl h
    · rfl
  rw [stateD, h1, h2]; rfl
def holdsM (Ss : List Simple) : PyData -> Bool
  | .tuple hs => allH memH Ss hs
  | _ => false
def holdsN (Ss : List Simple) : PyData -> Bool
  | .tuple hs => allH noteH Ss hs && !(hs.all blankD)
  | _ => false
theorem st_mem {s h : PyData} : stateD Ss kk (.tuple [.str "member", s, h]) = (wholeD 0 ((kk : Int) - 1) s && holdsM Ss h) := by
  have h2 : noteD Ss (.tuple [.str "member", s, h]) = false := by
    unfold noteD
    split
    · rename_i e; cases e
    · rfl
  rw [stateD, h2, Bool.or_false]
  cases h <;> simp [memD, holdsM]
theorem st_note {h : PyData} : stateD Ss kk (.tuple [.str "note", h]) = holdsN Ss h := by
  have h1 : memD Ss kk (.tuple [.str "note", h]) = false := rfl
  rw [stateD, h1, Bool.false_or]
  cases h <;> simp [noteD, holdsN]
theorem is_state_x (few : Ss.length <= 6) (g : ∀ S ∈ Ss, GoodS S kk) (hk : 0 < kk) (r : Rd av M k w d) : F__law_is_state [.d (.tuple (Ss.map sD)), .d (.int (kk : Int)), w] M = some (.d (.bool (stateD Ss kk d)), M) := by
  have e1 := isi_rd (T := "tuple") (a := eVar 2) (ρ := [some (.d (.tuple (Ss.map sD))), some (.d (.int (kk : Int))), some w, none, none, none]) r (by simp)
  rw [kd_tup] at e1
  simp only [F__law_is_state, nf, fnV, is_state_eq]
  have mk : mkTup [W.d (.str "member"), .d (.str "note")] = .d (.tuple [.str "member", .str "note"]) := rfl
  have ni : ∀ (z : Str) (N : Mem), oNotInT (.d (.str z)) (.d (.tuple [.str "member", .str "note"])) N = some (.d (.bool (!decide (z ∈ [Str.ofString "member", Str.ofString "note"]))), N) := fun z N => rfl
  have nd := fun b J => nb_d (M := M) (b := b) (J := J)
  have nd0 := fun b => nb_d (M := M) (b := b) (J := [])
  simp only [List.append_nil] at nd0
  cases d with
  | tuple ds =>
    obtain ⟨ws, hw, m, _, q⟩ := r.isTup
    have sq : ∀ N, seqOf N w = some ws := fun N => seq_tup hw
    have eqe : ∀ N, oEqE w (.d (.tuple [])) N = some (.d (.bool ws.isEmpty), N) := fun N => by simp [oEqE, hw, isE]
    cases q with
    | nil =>
      have tf : stateD Ss kk (.tuple []) = false := rfl
      rw [tf]
      generalize PyData.tuple (Ss.map sD) = sds at *
      simp [e1, isTupD, eqe, small_size, nd0, -x_isi]
    | @cons x0 d0 ws ds r0 q =>
      have a0 : atI (x0 :: ws) 0 = some x0 := atI_nat' (k := 0) rfl
      have s0 := isi_rd (T := "str") (a := eOp oIx (eVar 2) (eC (.int 0))) (ρ := [some (.d (.tuple (Ss.map sD))), some (.d (.int (kk : Int))), some w, none, none, none]) r0 (by simp [sq, a0])
      rw [kd_str] at s0
      cases d0 with
      | str z =>
        cases r0.str_eq
        have ql := q.length
        by_cases c1 : z = "member"
        · subst c1
          by_cases hl : ds.length = 2
          · obtain ⟨s, h, rfl⟩ := two hl
            rw [st_mem]
            cases q with | @cons x1 _ _ _ r1 q => cases q with | @cons x2 _ _ _ r2 q =>
            cases q
            have a1 : atI [.d (.str "member"), x1, x2] 1 = some x1 := atI_nat' (k := 1) rfl
            have a2 : atI [.d (.str "member"), x1, x2] (-1) = some x2 := rfl
            have t2 := fun v => isi_rd (T := "tuple") (a := eOp oIx (eVar 2) (eUn oNeg (eC (.int 1)))) (ρ := [some (.d (.tuple (Ss.map sD))), some (.d (.int (kk : Int))), some w, some v, none, none]) r2 (by simp [sq, a2])
            rw [kd_tup] at t2
            cases h with
            | tuple hs =>
              obtain ⟨us, hu, _, _, qu⟩ := r2.isTup
              have squ : ∀ N, seqOf N x2 = some us := fun N => seq_tup hu
              have qul := qu.length
              by_cases hlen : hs.length = Ss.length
              · obtain ⟨J, ea⟩ := allc_x (e := eDef 3 (F__law_is_hold) (aCons (eVar 4) (aCons (eVar 5) (aCons (eVar 3) aNil)))) (f := memH) (v0 := some (.d (.tuple (Ss.map sD)))) (v1 := some (.d (.int (kk : Int)))) (v2 := some w) (v3 := some (.d (.bool false))) (v4 := none) (v5 := none) (a := eVar 0) (b := eOp oIx (eVar 2) (eUn oNeg (eC (.int 1)))) (Ss := Ss) qu (by omega) (by simp) (by simp [sq, a2]) hu (by omega) fun acc S x d hS rx => by
                  have := isH_m (g S hS) hk rx
                  generalize sD S = sd at *
                  simp [this]
                replace ea : Eal _ M = _ := ea
                have i1 := isi_rd (T := "int") (a := eOp oIx (eVar 2) (eC (.int 1))) (ρ := [some (.d (.tuple (Ss.map sD))), some (.d (.int (kk : Int))), some w, some (.d (.bool false)), none, none]) (r1.app (J := J)) (by simp [sq, a1])
                have i2 := isi_rd (T := "bool") (a := eOp oIx (eVar 2) (eC (.int 1))) (ρ := [some (.d (.tuple (Ss.map sD))), some (.d (.int (kk : Int))), some w, some (.d (.bool false)), none, none]) (r1.app (J := J)) (by simp [sq, a1])
                rw [kd_int] at i1
                rw [kd_bool] at i2
                have ah : holdsM Ss (.tuple hs) = (Ss.zip hs).all fun t => memH t.1 t.2 := by simp [holdsM, allH, hlen]
                rw [ah]
                generalize ((Ss.zip hs).all fun t => memH t.1 t.2) = A at *
                have sl : ∀ N, seqOf N (.d (.tuple (Ss.map sD))) = some ((Ss.map sD).map W.d) := fun _ => rfl
                have sll : ((Ss.map sD).map W.d).length = Ss.length := by simp
                generalize (Ss.map sD).map W.d = sws at *
                generalize PyData.tuple (Ss.map sD) = sds at *
                cases A with
                | false => simp [e1, isTupD, eqe, small_size, s0, isStrD, sq, a0, a2, mk, ni, nem, t2, squ, sl, sll, qul, hlen, ea, nd, -x_isi]
                | true =>
                  cases s with
                  | int i =>
                    cases r1.int_eq
                    have cc : (decide (0 <= i) && decide (i < (kk : Int))) = (wholeD 0 ((kk : Int) - 1) (.int i)) := by simp only [wholeD]; congr 2; exact propext ⟨fun z => by omega, fun z => by omega⟩
                    rw [<- cc]
                    by_cases c2 : 0 <= i
                    · simp [e1, isTupD, eqe, small_size, s0, isStrD, sq, a0, a1, a2, mk, ni, nem, t2, squ, sl, sll, qul, hlen, ea, nd, i1, i2, isIntD, isBoolD, eCh, oLe, oLt, c2, -x_isi]
                    · simp [e1, isTupD, eqe, small_size, s0, isStrD, sq, a0, a1, a2, mk, ni, nem, t2, squ, sl, sll, qul, hlen, ea, nd, i1, i2, isIntD, isBoolD, eCh, oLe, oLt, c2, -x_isi]
                  | _ => simp [e1, isTupD, eqe, small_size, s0, isStrD, sq, a0, a2, mk, ni, nem, t2, squ, sl, sll, qul, hlen, ea, nd, i1, i2, isIntD, isBoolD, wholeD, -x_isi]
              · have ah : holdsM Ss (.tuple hs) = false := by simp [holdsM, allH, hlen]
                rw [ah, Bool.and_false]
                have sl : ∀ N, seqOf N (.d (.tuple (Ss.map sD))) = some ((Ss.map sD).map W.d) := fun _ => rfl
                have sll : ((Ss.map sD).map W.d).length = Ss.length := by simp
                generalize (Ss.map sD).map W.d = sws at *
                generalize PyData.tuple (Ss.map sD) = sds at *
                have hl2 : ¬ ((hs.length : Int) = (Ss.length : Int)) := by omega
                simp [e1, isTupD, eqe, small_size, s0, isStrD, sq, a0, a2, mk, ni, nem, t2, squ, sl, sll, qul, hl2, nd0, -x_isi]
            | _ =>
              simp only [holdsM, Bool.and_false]
              generalize PyData.tuple (Ss.map sD) = sds at *
              simp [e1, isTupD, eqe, small_size, s0, isStrD, sq, a0, a2, mk, ni, nem, t2, nd0, -x_isi]
          · rw [st_mem_not hl]
            generalize PyData.tuple (Ss.map sD) = sds at *
            have hl2 : ¬ ((ds.length : Int) + 1 = 3) := by omega
            simp [e1, isTupD, eqe, small_size, s0, isStrD, sq, a0, mk, ni, nem, ql, hl2, nd0, -x_isi]
        · by_cases c2 : z = "note"
          · subst c2
            by_cases hl : ds.length = 1
            · obtain ⟨h, rfl⟩ := one hl
              rw [st_note]
              cases q with | @cons x1 _ _ _ r1 q =>
              cases q
              have a1 : atI [.d (.str "note"), x1] 1 = some x1 := atI_nat' (k := 1) rfl
              have a2 : atI [.d (.str "note"), x1] (-1) = some x1 := rfl
              have t2 := fun v => isi_rd (T := "tuple") (a := eOp oIx (eVar 2) (eUn oNeg (eC (.int 1)))) (ρ := [some (.d (.tuple (Ss.map sD))), some (.d (.int (kk : Int))), some w, some v, none, none]) r1 (by simp [sq, a2])
              rw [kd_tup] at t2
              cases h with
              | tuple hs =>
                obtain ⟨us, hu, _, _, qu⟩ := r1.isTup
                have squ : ∀ N, seqOf N x1 = some us := fun N => seq_tup hu
                have qul := qu.length
                by_cases hlen : hs.length = Ss.length
                · obtain ⟨J, ea⟩ := allc_x (e := eDef 3 (F__law_is_hold) (aCons (eVar 4) (aCons (eVar 5) (aCons (eVar 3) aNil)))) (f := noteH) (v0 := some (.d (.tuple (Ss.map sD)))) (v1 := some (.d (.int (kk : Int)))) (v2 := some w) (v3 := some (.d (.bool true))) (v4 := none) (v5 := none) (a := eVar 0) (b := eOp oIx (eVar 2) (eUn oNeg (eC (.int 1)))) (Ss := Ss) qu (by omega) (by simp) (by simp [sq, a2]) hu (by omega) fun acc S x d hS rx => by
                    have := isH_n (g S hS) hk rx
                    generalize sD S = sd at *
                    simp [this]
                  replace ea : Eal _ M = _ := ea
                  have ah : holdsN Ss (.tuple hs) = (((Ss.zip hs).all fun t => noteH t.1 t.2) && !(hs.all blankD)) := by simp [holdsN, allH, hlen]
                  rw [ah]
                  have sl : ∀ N, seqOf N (.d (.tuple (Ss.map sD))) = some ((Ss.map sD).map W.d) := fun _ => rfl
                  have sll : ((Ss.map sD).map W.d).length = Ss.length := by simp
                  cases hA : ((Ss.zip hs).all fun t => noteH t.1 t.2) with
                  | false =>
                    rw [hA] at ea
                    generalize (Ss.map sD).map W.d = sws at *
                    generalize PyData.tuple (Ss.map sD) = sds at *
                    simp [e1, isTupD, eqe, small_size, s0, isStrD, sq, a0, a2, mk, ni, nen, t2, squ, sl, sll, qul, hlen, ea, nd, -x_isi]
                  | true =>
                    rw [hA] at ea
                    obtain ⟨ns, rfl⟩ := notes_are hlen hA
                    have hx : x1 = .d (.tuple (ns.map nD)) := r1.plain (by simp only [plainD]; exact plain_ns ns)
                    subst hx
                    obtain ⟨J2, en⟩ := enn_x (M := M ++ J) (ns := ns) (v0 := some (.d (.tuple (Ss.map sD)))) (v1 := some (.d (.int (kk : Int)))) (v3 := some (.d (.bool true))) (v4 := none) (v5 := none) (w := w) (by simp [sq, a1]) (by simp at hlen; omega)
                    rw [blank_ns]
                    simp only [show isTupD (.tuple (ns.map nD)) = true from rfl] at t2
                    generalize (Ss.map sD).map W.d = sws at *
                    generalize PyData.tuple (Ss.map sD) = sds at *
                    generalize PyData.tuple (ns.map nD) = nds at *
                    simp only [List.length_map] at hlen
                    simp [e1, isTupD, eqe, small_size, s0, isStrD, sq, a0, a2, mk, ni, nen, t2, squ, sl, sll, qul, hlen, ea, en, nd, -x_isi]
                · have ah : holdsN Ss (.tuple hs) = false := by simp [holdsN, allH, hlen]
                  rw [ah]
                  have sl : ∀ N, seqOf N (.d (.tuple (Ss.map sD))) = some ((Ss.map sD).map W.d) := fun _ => rfl
                  have sll : ((Ss.map sD).map W.d).length = Ss.length := by simp
                  generalize (Ss.map sD).map W.d = sws at *
                  generalize PyData.tuple (Ss.map sD) = sds at *
                  have hl2 : ¬ ((hs.length : Int) = (Ss.length : Int)) := by omega
                  simp [e1, isTupD, eqe, small_size, s0, isStrD, sq, a0, a2, mk, ni, nen, t2, squ, sl, sll, qul, hl2, nd0, -x_isi]
              | _ =>
                simp only [holdsN]
                generalize PyData.tuple (Ss.map sD) = sds at *
                simp [e1, isTupD, eqe, small_size, s0, isStrD, sq, a0, a2, mk, ni, nen, t2, nd0, -x_isi]
            · rw [st_note_not hl]
              generalize PyData.tuple (Ss.map sD) = sds at *
              have hl2 : ¬ ((ds.length : Int) + 1 = 2) := by omega
              simp [e1, isTupD, eqe, small_size, s0, isStrD, sq, a0, mk, ni, nen, ql, hl2, nd0, -x_isi]
          · rw [st_other c1 c2]
            generalize PyData.tuple (Ss.map sD) = sds at *
            simp [e1, isTupD, eqe, small_size, s0, isStrD, sq, a0, mk, ni, c1, c2, nd0, -x_isi]
      | _ =>
        rw [st_not rfl]
        generalize PyData.tuple (Ss.map sD) = sds at *
        simp [e1, isTupD, eqe, small_size, s0, isStrD, nd0, -x_isi]
  | _ =>
    have tf : ∀ d, isTupD d = false -> stateD Ss kk d = false := fun d hd => by cases d <;> first | rfl | cases hd
    rw [tf _ rfl]
    generalize PyData.tuple (Ss.map sD) = sds at *
    simp [e1, isTupD, nd0, -x_isi]
end
end K06
namespace K06
open PySem PySem.Spec PyProof.Rows L2 Sa Va Gn Pg Lx Tr
open Lw (Upd GoodS cm_left cm_right size_pos size_le DrawnH)
open K51 (head_is tup_mkTup)
noncomputable def H3 : EvE := (eOp oMul (eDef 1 (K07.F__law_size) (aCons (eVar 1) aNil)) (eOp oIx (eLst (aCons (eC (.int 1)) (aCons (eC (.int 2)) aNil))) (eCall fInt (aCons (eAnd (eVar 2) (eOp oEq (eOp oIx (eVar 1) (eC (.int 0))) (eC (.str "sum")))) aNil))))
noncomputable def H4 : EvE := (eIf (tVal (eOp oEq (eOp oIx (eVar 1) (eC (.int 0))) (eC (.str "rest")))) (eC (.int 0)) (eOp oSub (eC (.int 0)) (eVar 3)))
noncomputable def H5 : EvE := (eLc (iSeq (eTup (aCons (eUn oNeg (eC (.int 1))) (aCons (eC (.int 0)) (aCons (eC (.int 1)) aNil))))) (gN 9) tTrue (eCall fMin2 (aCons (eVar 3) (aCons (eCall fMax2 (aCons (eVar 4) (aCons (eOp oAdd (eOp oIx (eVar 1) (eC (.int 2))) (eVar 9)) aNil))) aNil))) [9])
noncomputable def H6 : EvE := (eOp oCat (eLst (aCons (eVar 4) (aCons (eVar 3) (aCons (eC (.int 0)) (aCons (eOp oAdd (eVar 4) (eDef 2 (Lx.F__law_take) (aCons (eVar 0) (aCons (eOp oAdd (eOp oSub (eVar 3) (eVar 4)) (eC (.int 1))) aNil)))) aNil))))) (eVar 5))
theorem g_hold_eq : g__law_hold = (sSeq (sSet 3 H3) (sSeq (sSet 4 H4) (sSeq (sSet 5 H5)
    (sSeq (sSet 6 (eDef 2 (Lx.F__law_of) (aCons (eVar 0) (aCons H6 aNil))))
    (sSeq (sPar 7 8 (aCons (eOp oEq (eDef 2 (Lx.F__law_take) (aCons (eVar 0) (aCons (eC (.int 2)) aNil))) (eC (.int 0))) (aCons (eOp oEq (eDef 2 (Lx.F__law_take) (aCons (eVar 0) (aCons (eC (.int 2)) aNil))) (eC (.int 0))) aNil)))
    (sSeq (sIf (tVal (eVar 2)) (sRet (eTup (aCons (eVar 7) (aCons (eVar 6) aNil)))) sNil)
    (sRet (eTup (aCons (eVar 7) (aCons (eVar 6) (aCons (eIf (tVal (eVar 7)) (eDef 2 (K07.F__law_so) (aCons (eVar 1) (aCons (eVar 6) aNil))) (eVar 8)) aNil))))))))))) := rfl
def nearI (lo hi t : Int) : Int := if (if t > lo then t else lo) < hi then (if t > lo then t else lo) else hi
theorem nearI_in {lo hi t : Int} (le : lo <= hi) : lo <= nearI lo hi t /\ nearI lo hi t <= hi := by
  unfold nearI
  split <;> split <;> omega
section
variable {av : Nat -> Bool} {M : Mem} {k kk l h : Nat} {w x : W} {ws : List W} {d : PyData} {n : Int} {S : Simple} {b : Bool} {v0 v1 v2 v3 v4 v5 v6 v7 v8 v9 : Option W}
theorem h3_x (g : GoodS S kk) (hk : 0 < kk) : ∃ J, H3 [v0, some (.d (sD S)), some (.d (.bool b)), v3, v4, v5, v6, v7, v8, v9] M = some (.d (.int (scl S (mul b))), M ++ J) := by
  have sz := fun N => K07.size_eq (M := N) g hk
  refine ⟨[.lst [.d (.int 1), .d (.int 2)]], ?_⟩
  cases S with
  | sum ws c =>
    simp only [scl, Simple.isRest, Bool.false_eq_true, if_false]
    generalize sizeM (.sum ws c) = z at *
    have m1 : CMul z 1 := cm_right (by decide)
    have m2 : CMul z 2 := cm_right (by decide)
    simp only [sD] at sz ⊢
    cases b <;> simp [H3, sz, small_size, mul, x_mul m1, x_mul m2, Int.mul_comm]
  | rest ws r m =>
    have ne : ¬ (Str.ofString "rest" = Str.ofString "sum") := by decide +kernel
    simp only [scl, Simple.isRest, if_true]
    generalize sizeM (.rest ws r m) = z at *
    have m1 : CMul z 1 := cm_right (by decide)
    simp only [sD] at sz ⊢
    cases b <;> simp [H3, sz, small_size, mul, x_mul m1, ne]
theorem h4_x {sc : Int} : H4 [v0, some (.d (sD S)), v2, some (.d (.int (scl S sc))), v4, v5, v6, v7, v8, v9] M = some (.d (.int (low S sc)), M) := by
  cases S with
  | sum ws c =>
    have ne : ¬ (Str.ofString "sum" = Str.ofString "rest") := by decide +kernel
    have lo : low (.sum ws c) sc = - scl (.sum ws c) sc := by simp [low, scl, Simple.isRest]
    rw [lo]
    generalize scl (.sum ws c) sc = z at *
    simp only [sD]
    simp [H4, ne]
  | rest ws r m =>
    have lo : low (.rest ws r m) sc = 0 := by simp [low, Simple.isRest]
    rw [lo]
    generalize scl (.rest ws r m) sc = z at *
    simp only [sD]
    simp [H4]
theorem h5_x {lo hi : Int} (le : lo <= hi) : ∃ a b c : Int, H5 [v0, some (.d (sD S)), v2, some (.d (.int hi)), some (.d (.int lo)), v5, v6, v7, v8, v9] M = some (.obj M.length, M ++ [.lst [.d (.int a), .d (.int b), .d (.int c)]]) /\ (lo <= a /\ a <= hi) /\ (lo <= b /\ b <= hi) /\ (lo <= c /\ c <= hi) := by
  obtain ⟨t, ws, h1, h2⟩ : ∃ t ws, (∀ N, seqOf N (.d (sD S)) = some ws) /\ atI ws 2 = some (.d (.int t)) := by
    cases S with
    | sum ws c => exact ⟨c, _, fun N => rfl, rfl⟩
    | rest ws r m => exact ⟨r, _, fun N => rfl, rfl⟩
  generalize sD S = sd at *
  have mk : mkTup [W.d (.int (-1)), .d (.int 0), .d (.int 1)] = .d (.tuple [.int (-1), .int 0, .int 1]) := rfl
  have f2 : ∀ (t : Int) (M : Mem), fMin2 [.d (.int hi), .d (.int (if t > lo then t else lo))] M = some (.d (.int (nearI lo hi t)), M) := fun _ _ => rfl
  have f3 : ∀ (b : Int) (M : Mem), fMax2 [.d (.int lo), .d (.int b)] M = some (.d (.int (if b > lo then b else lo)), M) := fun _ _ => rfl
  have sm : ∀ n, n < 5 -> n < sizeLine := fun n hn => Nat.lt_of_lt_of_le hn (by decide)
  refine ⟨nearI lo hi (t + -1), nearI lo hi t, nearI lo hi (t + 1), ?_, nearI_in le, nearI_in le, nearI_in le⟩
  simp [H5, mk, small_size, lcL, h1, h2, f2, f3, sm, -gt_iff_lt]
/-- a hold as it may be drawn -/
def HoldOk (S : Simple) (b : Bool) (d : PyData) : Prop := ∃ l z wd, d = (if b = true then PyData.tuple [.bool l, .int z] else .tuple [.bool l, .int z, .bool wd]) /\ low S (mul b) <= z /\ z <= scl S (mul b) /\ (l = true -> wd = saysM S z)
theorem scl_b (g : GoodS S kk) (hk : 0 < kk) : 1 <= scl S (mul b) /\ scl S (mul b) <= 42 /\ -42 <= low S (mul b) /\ low S (mul b) <= 0 := by
  obtain ⟨z1, z2⟩ := size_le g hk
  unfold scl low mul
  cases b <;> split <;> simp <;> omega
theorem HoldOk.pl (h : HoldOk S b d) (g : GoodS S kk) (hk : 0 < kk) : K51.Pl d 1 48 := by
  obtain ⟨l, z, wd, rfl, h1, h2, _⟩ := h
  have s := scl_b (b := b) g hk
  have hi : K51.Pl (.int z) 0 13 := ⟨rfl, by simpa [PyData.showable] using log_small (a := z.natAbs) (by omega), Nat.le_refl _, by simp [intB]; omega, txt_int (by omega)⟩
  have hb : ∀ l : Bool, K51.Pl (.bool l) 0 13 := fun l => ⟨rfl, rfl, Nat.le_refl _, rfl, by simp only [txt]; omega⟩
  cases b with
  | true =>
    refine K51.Pl.mono (K51.Pl.tup (m := 3) (D := 0) (L := 13) (fun d hd => ?_) (by simp)) (by decide) (by decide)
    simp only [List.mem_cons, List.not_mem_nil, or_false] at hd
    rcases hd with rfl | rfl
    · exact hb _
    · exact hi
  | false =>
    refine K51.Pl.mono (K51.Pl.tup (m := 3) (D := 0) (L := 13) (fun d hd => ?_) (by simp)) (by decide) (by decide)
    simp only [List.mem_cons, List.not_mem_nil, or_false] at hd
    rcases hd with rfl | rfl | rfl
    · exact hb _
    · exact hi
    · exact hb _
theorem HoldOk.mem (h : HoldOk S false d) : memH S d = true := by
  obtain ⟨l, z, wd, rfl, h1, h2, h3⟩ := h
  have m1 : mul false = 1 := rfl
  rw [m1] at h1 h2
  cases l <;> simp [memH, h1, h2] at h3 ⊢
  exact h3
theorem HoldOk.note (h : HoldOk S true d) : noteH S d = true := by
  obtain ⟨l, z, wd, rfl, h1, h2, h3⟩ := h
  have m1 : mul true = 2 := rfl
  rw [m1] at h1 h2
  simp [noteH, h1, h2]
theorem take_l {ρ : Ev} {a : EvE} {m : Int} {Q : W × Mem -> Prop} (h0 : ρ[0]? = some (some (.obj h))) (ha : ∀ M, a ρ M = some (.d (.int m), M)) (hd : HandX M h n) (nb : n + 1 < 2 ^ 40) (m0 : 0 < m) (mb : m < 2 ^ 60)
    (q : ∀ v M', 0 <= v -> v < m -> HandX M' h (n + 1) -> Upd h M M' -> Q (.d (.int v), M')) : Ok (eDef 2 (Lx.F__law_take) (aCons (eVar 0) (aCons a aNil)) ρ M) Q := by
  simp only [x_def, x_acons, x_anil, x_var h0, ha, Option.bind_some, List.length_cons, List.length_nil, if_true, Nat.zero_add, Nat.reduceAdd]
  exact take_x hd (by omega) m0 (by omega) q
theorem h6_x {lo hi : Int} {a b c : Int} {Q : W × Mem -> Prop} (hd : HandX M h n) (nb : n + 1 < 2 ^ 40) (hl : M[l]? = some (.lst [.d (.int a), .d (.int b), .d (.int c)])) (lh : l ≠ h) (le : lo <= hi) (sm : hi - lo < 1000)
    (q : ∀ (t : Int) M', 0 <= t -> t < hi - lo + 1 -> HandX M' h (n + 1) -> Ex1 h M M' -> Q (.obj M'.length, M' ++ [.lst [.d (.int lo), .d (.int hi), .d (.int 0), .d (.int (lo + t)), .d (.int a), .d (.int b), .d (.int c)]])) :
    Ok (H6 [some (.obj h), v1, v2, some (.d (.int hi)), some (.d (.int lo)), some (.obj l), v6, v7, v8, v9] M) Q := by
  unfold H6
  rw [x_op, ok_bind, x_lst, ok_bind]
  simp only [x_acons, x_anil, x_op, x_c, x_var (show ([some (.obj h), v1, v2, some (.d (.int hi)), some (.d (.int lo)), some (.obj l), v6, v7, v8, v9] : Ev)[3]? = some (some (.d (.int hi))) from rfl), x_var (show ([some (.obj h), v1, v2, some (.d (.int hi)), some (.d (.int lo)), some (.obj l), v6, v7, v8, v9] : Ev)[4]? = some (some (.d (.int lo))) from rfl), Option.bind_some, ok_bind]
  refine take_l (m := hi - lo + 1) rfl (fun N => by simp) hd nb (by omega) (by omega) fun v M' t0 t1 hd' up' => ?_
  simp only [ok_some]
  have ad : oAdd (.d (.int lo)) (.d (.int v)) M' = some (.d (.int (lo + v)), M') := rfl
  simp only [ad, ok_some]
  rw [if_pos (small_size (by simp))]
  simp only [ok_some, x_var (show ([some (.obj h), v1, v2, some (.d (.int hi)), some (.d (.int lo)), some (.obj l), v6, v7, v8, v9] : Ev)[5]? = some (some (.obj l)) from rfl)]
  have g1 : (M' ++ [MO.lst [.d (.int lo), .d (.int hi), .d (.int 0), .d (.int (lo + v))]])[l]? = some (.lst [.d (.int a), .d (.int b), .d (.int c)]) := get_old (by rw [up'.2 l lh]; exact hl)
  have g2 : (M' ++ [MO.lst [.d (.int lo), .d (.int hi), .d (.int 0), .d (.int (lo + v))]])[M'.length]? = some (.lst [.d (.int lo), .d (.int hi), .d (.int 0), .d (.int (lo + v))]) := by simp
  simp only [oCat, x_lstAt g1, x_lstAt g2, Option.bind_some]
  rw [if_pos (small_size (by simp)), ok_some]
  have := q v (M' ++ [MO.lst [.d (.int lo), .d (.int hi), .d (.int 0), .d (.int (lo + v))]]) t0 t1 hd'.app ((Ex1.upd up').trans .app)
  exact this
theorem hold_t {Q : W × Mem -> Prop} (g : GoodS S kk) (hk : 0 < kk) (hd : HandX M h n) (nb : n + 10 < 2 ^ 40)
    (q : ∀ d M', HoldOk S b d -> HandX M' h (n + 4) -> Ex1 h M M' -> Q (.d d, M')) : Ok (F__law_hold [.obj h, .d (sD S), .d (.bool b)] M) Q := by
  have hl := hd.lt
  refine fn_t (av := fun i => i == h) (kk := 10) (gg := g__law_hold) hl (fun i hi => by rw [show i = h from by simpa using hi]; exact hl) ?_
  show Ok (g__law_hold [some (.obj h), some (.d (sD S)), some (.d (.bool b)), none, none, none, none, none, none, none] M) _
  have so := fun N n => K07.so_eq (M := N) (S := S) (n := n)
  obtain ⟨s1, s2, s3, s4⟩ := scl_b (b := b) g hk
  rw [g_hold_eq, ok_seq, x_set, ok_bind]
  obtain ⟨J1, e1⟩ := h3_x (M := M) (b := b) (v0 := some (.obj h)) (v3 := none) (v4 := none) (v5 := none) (v6 := none) (v7 := none) (v8 := none) (v9 := none) g hk
  rw [e1, ok_some, ok_some, thenQ_nx, ok_seq, x_set, ok_bind]
  simp only [List.set_cons_succ, List.set_cons_zero]
  rw [h4_x, ok_some, ok_some, thenQ_nx, ok_seq, x_set, ok_bind]
  simp only [List.set_cons_succ, List.set_cons_zero]
  obtain ⟨a, c, e, e5, ha, hc, he⟩ := h5_x (M := M ++ J1) (S := S) (v0 := some (.obj h)) (v2 := some (.d (.bool b))) (v5 := none) (v6 := none) (v7 := none) (v8 := none) (v9 := none) (show low S (mul b) <= scl S (mul b) by omega)
  rw [e5, ok_some, ok_some, thenQ_nx, ok_seq, x_set, ok_bind, x_def, ok_bind, x_acons]
  simp only [List.set_cons_succ, List.set_cons_zero]
  rw [x_var (show ([some (.obj h), some (.d (sD S)), some (.d (.bool b)), some (.d (.int (scl S (mul b)))), some (.d (.int (low S (mul b)))), some (.obj (M ++ J1).length), none, none, none, none] : Ev)[0]? = some (some (.obj h)) from rfl)]
  simp only [Option.bind_some, x_acons, x_anil]
  rw [ok_bind, ok_bind]
  refine h6_x (l := (M ++ J1).length) (a := a) (b := c) (c := e) (hd.app.app) (by omega) List.getElem?_concat_length (by simp; omega) (by omega) (by omega) fun t M1 t0 t1 hd1 ex1 => ?_
  simp only [ok_some, List.length_cons, List.length_nil]
  rw [if_pos (by decide)]
  refine of_x hd1.app (by omega) (List.getElem?_concat_length) (by have := hd1.lt; omega) (by simp) (by simp) rfl fun w M2 hw hd2 up2 => ?_
  obtain ⟨z, rfl, z1, z2⟩ : ∃ z : Int, w = .d (.int z) /\ low S (mul b) <= z /\ z <= scl S (mul b) := by
    simp only [List.mem_cons, List.not_mem_nil, or_false] at hw
    rcases hw with rfl | rfl | rfl | rfl | rfl | rfl | rfl
    · exact ⟨_, rfl, by omega, by omega⟩
    · exact ⟨_, rfl, by omega, by omega⟩
    · exact ⟨_, rfl, by omega, by omega⟩
    · exact ⟨_, rfl, by omega, by omega⟩
    · exact ⟨_, rfl, by omega, by omega⟩
    · exact ⟨_, rfl, by omega, by omega⟩
    · exact ⟨_, rfl, by omega, by omega⟩
  rw [thenQ_nx, ok_seq]
  have ex2 : Ex1 h M M2 := Ex1.app.trans (Ex1.app.trans (ex1.trans (Ex1.app.trans (.upd up2))))
  have hokz : ∀ l wd, (l = true -> wd = saysM S z) -> HoldOk S b (if b = true then PyData.tuple [.bool l, .int z] else .tuple [.bool l, .int z, .bool wd]) := fun l wd hw => ⟨l, z, wd, rfl, z1, z2, hw⟩
  generalize hsd : sD S = sd at *
  generalize (M ++ J1).length = l5
  simp only [List.set_cons_succ, List.set_cons_zero]
  generalize scl S (mul b) = hi at *
  generalize low S (mul b) = lo at *
  have hd2' : HandX M2 h (n + 2) := hd2.mono (by omega)
  simp
  refine take_x hd2' (by omega) (by decide) (by decide) fun u1 M3 _ _ hd3 up3 => ?_
  simp
  refine take_x hd3 (by omega) (by decide) (by decide) fun u2 M4 _ _ hd4 up4 => ?_
  simp
  rw [thenQ_nx, ok_seq]
  have ex4 : Ex1 h M M4 := ex2.trans ((Ex1.upd up3).trans (.upd up4))
  have hd4' : HandX M4 h (n + 4) := hd4.mono (by omega)
  generalize decide (u1 = 0) = b1
  generalize decide (u2 = 0) = b2
  have fin : ∀ d, HoldOk S b d -> ∃ w M', (W.d d = w /\ M4 = M') /\ ∃ d' k, Rd (fun i => i == h) M' k w d' /\ ∃ n', HandX M' h n' /\ Ex1 h M M' /\ ∀ w1 M1, Rd (fun i => i == h) M1 k w1 d' -> HandX M1 h n' -> Ex1 h M M1 -> Q (w1, M1) := fun d hok => by
    have p := hok.pl g hk
    refine ⟨_, M4, ⟨rfl, rfl⟩, d, 1, .dat p.pl p.s p.p, n + 4, hd4', ex4, fun w1 M5 r1 hd5 ex5 => ?_⟩
    rw [r1.plain p.pl]
    exact q d M5 hok hd5 ex5
  cases b with
  | true =>
    have mk : mkTup [W.d (.bool b1), .d (.int z)] = .d (.tuple [.bool b1, .int z]) := rfl
    simp [small_size, mk, thenQ]
    exact fin _ (hokz b1 (saysM S z) fun _ => rfl)
  | false =>
    have so' := so M4 z
    cases b1 with
    | true =>
      have mk : ∀ x, mkTup [W.d (.bool true), .d (.int z), .d (.bool x)] = .d (.tuple [.bool true, .int z, .bool x]) := fun _ => rfl
      simp [small_size, mk, thenQ, so']
      exact fin _ (hokz true (saysM S z) fun _ => rfl)
    | false =>
      have mk : ∀ x, mkTup [W.d (.bool false), .d (.int z), .d (.bool x)] = .d (.tuple [.bool false, .int z, .bool x]) := fun _ => rfl
      simp [small_size, mk, thenQ]
      exact fin _ (hokz false b2 fun h => by cases h)
end
end K06
namespace K06
open PySem PySem.Spec PyProof.Rows L2 Sa Va Gn Pg Lx Tr
open Lw (Upd GoodS cm_left cm_right size_pos size_le DrawnH)
open K51 (head_is tup_mkTup)
section
variable {av : Nat -> Bool} {M : Mem} {k kk l j h p : Nat} {w x : W} {ws : List W} {d : PyData} {ds hs : List PyData} {n : Int} {S : Simple} {Ss : List Simple} {ns : List (Bool × Int)} {b : Bool} {v0 v1 v2 v3 v4 v5 v6 : Option W}
theorem holds_l {Q : Mem -> Prop} (hk : 0 < kk) (ph : p ≠ h) : ∀ (Ts : List Simple) (n : Int) (M : Mem) (ds0 : List PyData), (∀ S ∈ Ts, GoodS S kk) -> HandX M h n -> n + 4 * Ts.length + 10 < 2 ^ 40 -> M[p]? = some (.lst (ds0.map W.d)) -> ds0.length + Ts.length <= 1000 ->
    (∀ (ds : List PyData) (M' : Mem), ds.length = Ts.length -> (∀ t ∈ Ts.zip ds, HoldOk t.1 b t.2) -> HandX M' h (n + 4 * Ts.length) -> M.length <= M'.length -> (∀ i, i < M.length -> i ≠ h -> i ≠ p -> M'[i]? = M[i]?) -> M'[p]? = some (.lst ((ds0 ++ ds).map W.d)) -> Q M') ->
    Ok (lcL [] (gN 5) tTrue (eDef 3 (F__law_hold) (aCons (eVar 0) (aCons (eVar 5) (aCons (eVar 3) aNil)))) [some (.obj h), v1, v2, some (.d (.bool b)), v4, none, v6] p (Ts.map fun S => .d (sD S)) M) Q
  | [], n, M, ds0, g, hd, nb, hp, few, q => by
    simp only [List.map_nil, lcL]
    rw [if_pos (by simp [Deps])]
    exact ok_some.mpr (q [] M rfl (fun _ z => nomatch z) (by simpa using hd) (Nat.le_refl _) (fun _ _ _ _ => rfl) (by simpa using hp))
  | S :: Ts, n, M, ds0, g, hd, nb, hp, few, q => by
    simp only [List.length_cons] at nb few
    simp only [List.map_cons, lcL]
    rw [if_pos (by simp [Deps])]
    simp only [gN, Option.bind_some, x_ttrue, if_true, List.set_cons_succ, List.set_cons_zero]
    rw [ok_bind]
    simp only [x_def, x_acons, x_anil, x_var (show ([some (.obj h), v1, v2, some (.d (.bool b)), v4, some (.d (sD S)), v6] : Ev)[0]? = some (some (.obj h)) from rfl), x_var (show ([some (.obj h), v1, v2, some (.d (.bool b)), v4, some (.d (sD S)), v6] : Ev)[5]? = some (some (.d (sD S))) from rfl), x_var (show ([some (.obj h), v1, v2, some (.d (.bool b)), v4, some (.d (sD S)), v6] : Ev)[3]? = some (some (.d (.bool b))) from rfl), Option.bind_some, List.length_cons, List.length_nil]
    rw [if_pos (by decide)]
    refine hold_t (g S List.mem_cons_self) hk hd (by omega) fun x M1 px hd1 ex1 => ?_
    have hp1 : M1[p]? = some (.lst (ds0.map W.d)) := ex1.at hp ph
    have sm : (ds0.map W.d).length < sizeLine := by
      rw [List.length_map]
      exact Nat.lt_of_lt_of_le (by omega : ds0.length < 100001) (by decide)
    have pl : p < M1.length := (List.getElem?_eq_some_iff.mp hp1).1
    rw [x_lstAt hp1]
    simp only [Option.bind_some]
    rw [if_pos sm]
    have g1 : (M1.set p (.lst (ds0.map W.d ++ [.d x])))[p]? = some (.lst ((ds0 ++ [x]).map W.d)) := by rw [List.getElem?_set_self pl]; simp
    have hd2 : HandX (M1.set p (.lst (ds0.map W.d ++ [.d x]))) h (n + 4) := hand_at hd1 (List.getElem?_set_ne ph)
    refine holds_l hk ph Ts (n + 4) _ (ds0 ++ [x]) (fun T hT => g T (List.mem_cons_of_mem _ hT)) hd2 (by omega) g1 (by simp; omega) fun ds M' l hP' hd' ml un at' => ?_
    refine q (x :: ds) M' (by simp [l]) (fun t ht => ?_) (hd'.mono (by simp only [List.length_cons]; omega)) (by rw [List.length_set] at ml; exact Nat.le_trans ex1.1 ml) (fun i hi i1 i2 => ?_) (by simpa using at')
    · rw [List.zip_cons_cons] at ht
      rcases List.mem_cons.mp ht with rfl | z
      · exact px
      · exact hP' t z
    · rw [un i (by rw [List.length_set]; exact Nat.lt_of_lt_of_le hi ex1.1) i1 i2, List.getElem?_set_ne (Ne.symm i2), ex1.2 i hi i1]
/-- a state as it may be drawn -/
def StOk (Ss : List Simple) (kk : Nat) (d : PyData) : Prop := ∃ hs, hs.length = Ss.length /\ ((∃ i : Int, 0 <= i /\ i < kk /\ d = .tuple [.str "member", .int i, .tuple hs] /\ ∀ t ∈ Ss.zip hs, HoldOk t.1 false t.2) ∨ (d = .tuple [.str "note", .tuple hs] /\ (∀ t ∈ Ss.zip hs, HoldOk t.1 true t.2) /\ hs.all blankD = false))
theorem zip_pl (hk : 0 < kk) : ∀ {Ss : List Simple} {hs : List PyData}, (∀ S ∈ Ss, GoodS S kk) -> hs.length = Ss.length -> (∀ t ∈ Ss.zip hs, HoldOk t.1 b t.2) -> ∀ d ∈ hs, K51.Pl d 1 48
  | S :: Ss, x :: hs, g, len, hz, d, hd => by
    rw [List.zip_cons_cons] at hz
    rcases List.mem_cons.mp hd with rfl | z
    · exact (hz (S, d) List.mem_cons_self).pl (g S List.mem_cons_self) hk
    · exact zip_pl hk (Ss := Ss) (hs := hs) (fun T hT => g T (List.mem_cons_of_mem _ hT)) (by simpa using len) (fun t ht => hz t (List.mem_cons_of_mem _ ht)) d z
  | [], x :: hs, g, len, hz, d, hd => by simp at len
  | _, [], g, len, hz, d, hd => nomatch hd
theorem StOk.pl (s : StOk Ss kk d) (few : Ss.length <= 6) (g : ∀ S ∈ Ss, GoodS S kk) (hk : 0 < kk) (k6 : kk <= 6) : K51.Pl d 3 930 := by
  obtain ⟨hs, len, h⟩ := s
  have hm : ∀ s : Str, s = "member" ∨ s = "note" -> K51.Pl (.str s) 2 303 := fun s hs => by
    refine ⟨rfl, rfl, Nat.zero_le _, rfl, ?_⟩
    rcases hs with rfl | rfl <;> (simp only [txt, PyData.shown]; decide +kernel)
  rcases h with ⟨i, i0, i1, rfl, hz⟩ | ⟨rfl, hz, _⟩
  · have p1 : K51.Pl (.tuple hs) 2 303 := K51.Pl.tup (m := 6) (zip_pl hk g len hz) (by omega)
    have p2 : K51.Pl (.int i) 2 303 := ⟨rfl, by simpa [PyData.showable] using log_small (a := i.natAbs) (by omega), Nat.zero_le _, by simp [intB]; omega, Nat.le_trans (txt_int (by omega)) (by decide)⟩
    refine K51.Pl.mono (K51.Pl.tup (m := 3) (D := 2) (L := 303) (fun d hd => ?_) (by simp)) (by decide) (by decide)
    simp only [List.mem_cons, List.not_mem_nil, or_false] at hd
    rcases hd with rfl | rfl | rfl
    · exact hm _ (.inl rfl)
    · exact p2
    · exact p1
  · have p1 : K51.Pl (.tuple hs) 2 303 := K51.Pl.tup (m := 6) (zip_pl hk g len hz) (by omega)
    refine K51.Pl.mono (K51.Pl.tup (m := 3) (D := 2) (L := 303) (fun d hd => ?_) (by simp)) (by decide) (by decide)
    simp only [List.mem_cons, List.not_mem_nil, or_false] at hd
    rcases hd with rfl | rfl
    · exact hm _ (.inr rfl)
    · exact p1
theorem StOk.state (s : StOk Ss kk d) : stateD Ss kk d = true := by
  obtain ⟨hs, len, h⟩ := s
  rcases h with ⟨i, i0, i1, rfl, hz⟩ | ⟨rfl, hz, hb⟩
  · rw [st_mem]
    have ah : holdsM Ss (.tuple hs) = true := by
      simp only [holdsM, allH, len, decide_true, Bool.true_and, List.all_eq_true]
      exact fun t ht => (hz t ht).mem
    rw [ah, Bool.and_true]
    simp only [wholeD, Bool.and_eq_true, decide_eq_true_eq]
    omega
  · rw [st_note]
    simp only [holdsN, allH, len, decide_true, Bool.true_and, hb, Bool.not_false, Bool.and_true, List.all_eq_true]
    exact fun t ht => (hz t ht).note
noncomputable def Est : EvT := (tVal (eOp oEqL (eLc (iSeq (eVar 4)) (gN 6) (tVal (eOp oNe (eVar 6) (eTup (aCons (eC (.bool false)) (aCons (eC (.int 0)) aNil))))) (eVar 6) [6]) (eLst aNil)))
theorem g_state_eq : g__law_state = (sSeq (sSet 3 (eOp oEq (eDef 2 (Lx.F__law_take) (aCons (eVar 0) (aCons (eC (.int 3)) aNil))) (eC (.int 0))))
    (sSeq (sSet 4 (eLc (iSeq (eVar 1)) (gN 5) tTrue (eDef 3 (F__law_hold) (aCons (eVar 0) (aCons (eVar 5) (aCons (eVar 3) aNil)))) [5]))
    (sSeq (sIf (tNotE (tVal (eVar 3))) (sRet (eTup (aCons (eC (.str "member")) (aCons (eDef 2 (Lx.F__law_take) (aCons (eVar 0) (aCons (eVar 2) aNil))) (aCons (eCall fTuple (aCons (eVar 4) aNil)) aNil))))) sNil)
    (sSeq (sIf Est (sPut (eTup (aCons (eC (.bool true)) (aCons (eC (.int 0)) aNil))) (eVar 4) (eDef 2 (Lx.F__law_take) (aCons (eVar 0) (aCons (eCall fLen (aCons (eVar 4) aNil)) aNil)))) sNil)
    (sRet (eTup (aCons (eC (.str "note")) (aCons (eCall fTuple (aCons (eVar 4) aNil)) aNil)))))))) := rfl
theorem eq_nil (hi : M[l]? = some (.lst (ns.map fun p => .d (nD p)))) (hj : M[j]? = some (.lst [])) : oEqL (.obj l) (.obj j) M = some (.d (.bool ns.isEmpty), M) := by
  have := ne_nil hi hj
  simp only [oNeL, Option.map_eq_some_iff] at this
  obtain ⟨q, e, e2⟩ := this
  have : q = ns.isEmpty := by
    have e3 : (!q) = !ns.isEmpty := by
      injection e2 with e2 _
      injection e2 with e2
      injection e2
    cases q <;> cases h : ns.isEmpty <;> simp_all
  simp only [oEqL, e, Option.map_some, this]
theorem est_x (hl : M[l]? = some (.lst (ns.map fun p => .d (nD p)))) (few : ns.length <= 1000) : ∃ J, Est [v0, v1, v2, v3, some (.obj l), v5, v6] M = some (ns.all isNo, M ++ J) := by
  have mk : mkTup [W.d (.bool false), .d (.int 0)] = .d (.tuple [.bool false, .int 0]) := rfl
  have sel := K07.lc_selD (deps := [(l, .lst (ns.map fun p => .d (nD p)))]) (M := M) (g := gN 6) (t := tVal (eOp oNe (eVar 6) (eTup (aCons (eC (.bool false)) (aCons (eC (.int 0)) aNil))))) (e := eVar 6) (ρ0 := [v0, v1, v2, v3, some (.obj l), v5, none]) (fun p : Bool × Int => .d (nD p)) (fun p => .d (nD p)) (fun p => !isNo p) (fun acc => Deps.one.mpr (get_old hl)) ns [] (by simp; omega) fun p hp => ⟨[v0, v1, v2, v3, some (.obj l), v5, some (.d (nD p))], rfl, fun acc => by
    have := neq_no (M := M ++ [.lst acc]) p
    simp [small_size, mk, this]⟩
  simp only [List.nil_append] at sel
  refine ⟨[.lst ((ns.filter fun p => !isNo p).map fun p => .d (nD p)), .lst []], ?_⟩
  have nn := eq_nil (M := M ++ [.lst ((ns.filter fun p => !isNo p).map fun p => .d (nD p)), .lst []]) (l := M.length) (j := M.length + 1) (ns := ns.filter fun p => !isNo p) (by simp) (by simp)
  have ie : (ns.filter fun p => !isNo p).isEmpty = ns.all isNo := by
    cases h : ns.all isNo with
    | true => rw [List.isEmpty_iff, List.filter_eq_nil_iff]; intro p hp; simp [List.all_eq_true.mp h p hp]
    | false =>
      rw [Bool.eq_false_iff, Ne, List.isEmpty_iff, List.filter_eq_nil_iff]
      intro z
      rw [Bool.eq_false_iff] at h
      exact h (List.all_eq_true.mpr fun p hp => by simpa using z p hp)
  rw [ie] at nn
  simp [Est, hl, sel, nn, small_size]
theorem holds_ns : ∀ {Ss : List Simple} {hs : List PyData}, hs.length = Ss.length -> (∀ t ∈ Ss.zip hs, HoldOk t.1 true t.2) -> ∃ ns : List (Bool × Int), hs = ns.map nD
  | [], [], _, _ => ⟨[], rfl⟩
  | S :: Ss, x :: hs, len, hz => by
    rw [List.zip_cons_cons] at hz
    obtain ⟨ns, rfl⟩ := holds_ns (Ss := Ss) (hs := hs) (by simpa using len) fun t ht => hz t (List.mem_cons_of_mem _ ht)
    obtain ⟨l, z, wd, e, _⟩ := hz (S, x) List.mem_cons_self
    exact ⟨(l, z) :: ns, by simp only [if_true] at e; simp [e, nD]⟩
  | _ :: _, [], len, _ => by simp at len
  | [], _ :: _, len, _ => by simp at len
/-- one of them is led -/
theorem holds_set : ∀ {Ss : List Simple} {hs : List PyData} {j : Nat}, hs.length = Ss.length -> (∀ S ∈ Ss, GoodS S kk) -> 0 < kk -> j < hs.length -> (∀ t ∈ Ss.zip hs, HoldOk t.1 true t.2) -> (∀ t ∈ Ss.zip (hs.set j (.tuple [.bool true, .int 0])), HoldOk t.1 true t.2) /\ (hs.set j (.tuple [.bool true, .int 0])).all blankD = false
  | S :: Ss, x :: hs, 0, len, g, hk, lt, hz => by
    have s := scl_b (b := true) (g S List.mem_cons_self) hk
    rw [List.set_cons_zero, List.zip_cons_cons]
    rw [List.zip_cons_cons] at hz
    refine ⟨fun t ht => ?_, by simp [blankD]⟩
    rcases List.mem_cons.mp ht with rfl | z
    · exact ⟨true, 0, saysM S 0, rfl, s.2.2.2, Int.le_trans (by decide) s.1, fun _ => rfl⟩
    · exact hz t (List.mem_cons_of_mem _ z)
  | S :: Ss, x :: hs, j + 1, len, g, hk, lt, hz => by
    rw [List.zip_cons_cons] at hz
    obtain ⟨h1, h2⟩ := holds_set (Ss := Ss) (hs := hs) (j := j) (by simpa using len) (fun T hT => g T (List.mem_cons_of_mem _ hT)) hk (by simpa using lt) fun t ht => hz t (List.mem_cons_of_mem _ ht)
    rw [List.set_cons_succ, List.zip_cons_cons]
    refine ⟨fun t ht => ?_, by rw [List.all_cons, h2, Bool.and_false]⟩
    rcases List.mem_cons.mp ht with rfl | z
    · exact hz _ List.mem_cons_self
    · exact h1 t z
  | [], x :: hs, j, len, g, hk, lt, hz => by simp at len
  | _, [], j, len, g, hk, lt, hz => by simp at lt
theorem ix_in {n : Nat} {i : Int} (h0 : 0 <= i) (h1 : i < n) : ixN n i = some i.toNat := by
  unfold ixN
  rw [if_pos h0, if_pos h1]
theorem state_t {Q : W × Mem -> Prop} (few : Ss.length <= 6) (some1 : 0 < Ss.length) (g : ∀ S ∈ Ss, GoodS S kk) (hk : 0 < kk) (hd : HandX M h n) (nb : n + 50 < 2 ^ 40)
    (q : ∀ d M', StOk Ss kk d -> HandX M' h (n + 30) -> Ex1 h M M' -> Q (.d d, M')) : Ok (F__law_state [.obj h, .d (.tuple (Ss.map sD)), .d (.int (kk : Int))] M) Q := by
  have hl := hd.lt
  refine fn_t (av := fun i => i == h) (kk := 7) (gg := g__law_state) hl (fun i hi => by rw [show i = h from by simpa using hi]; exact hl) ?_
  show Ok (g__law_state [some (.obj h), some (.d (.tuple (Ss.map sD))), some (.d (.int (kk : Int))), none, none, none, none] M) _
  have k6 : kk <= 6 := by
    cases Ss with
    | nil => simp at some1
    | cons S Ss => exact (g S List.mem_cons_self).few
  rw [g_state_eq, ok_seq, x_set, ok_bind, x_op, ok_bind]
  refine take_l (m := 3) rfl (fun N => by simp) hd (by omega) (by decide) (by decide) fun v M1 _ _ hd1 up1 => ?_
  simp only [x_c, Option.bind_some, ok_some, x_eqI]
  generalize decide (v = 0) = b
  rw [thenQ_nx, ok_seq, x_set, ok_bind]
  simp only [List.set_cons_succ, List.set_cons_zero]
  have it : iSeq (eVar 1) [some (.obj h), some (.d (.tuple (Ss.map sD))), some (.d (.int (kk : Int))), some (.d (.bool b)), none, none, none] M1 = some ((Ss.map fun S => .d (sD S), []), M1) := by
    have := iseq_tup (M := M1) (ρ := [some (.obj h), some (.d (.tuple (Ss.map sD))), some (.d (.int (kk : Int))), some (.d (.bool b)), none, none, none]) (a := eVar 1) (w := .d (.tuple (Ss.map sD))) (ws := (Ss.map sD).map W.d) rfl rfl
    rw [this, List.map_map]
    rfl
  rw [x_lc, it]
  simp only [Option.bind_some]
  rw [ok_bind]
  have hl1 : h < M1.length := by rw [up1.1]; exact hl
  refine holds_l (b := b) (p := M1.length) (v1 := some (.d (.tuple (Ss.map sD)))) (v2 := some (.d (.int (kk : Int)))) (v4 := none) (v6 := none) hk (by omega) Ss (n + 1) (M1 ++ [.lst []]) [] g hd1.app (by omega) (by simp) (by simp; omega) fun hs M2 len hz hd2 ml un at2 => ?_
  simp only [List.nil_append] at at2
  have ex2 : Ex1 h M M2 := (Ex1.upd up1).trans ⟨by simp at ml; omega, fun i hi i1 => by rw [un i (by simp; omega) i1 (by omega), List.getElem?_append_left hi]⟩
  have hl1' : M1.length ≠ h := by omega
  have hl2 : M.length <= M1.length := by rw [up1.1]; exact Nat.le_refl _
  generalize M1.length = l at at2 hl1' hl2 ⊢
  clear un ml up1 hd1 it
  rw [ok_some, ok_some, thenQ_nx, ok_seq]
  simp only [List.set_cons_succ, List.set_cons_zero]
  have fin : ∀ d M4, StOk Ss kk d -> HandX M4 h (n + 30) -> Ex1 h M M4 -> ∃ w M' d' k n', Out.rt (.d d) M4 = .rt w M' /\ Rd (fun i => i == h) M' k w d' /\ HandX M' h n' /\ Ex1 h M M' /\ ∀ w1 M1, Rd (fun i => i == h) M1 k w1 d' -> HandX M1 h n' -> Ex1 h M M1 -> Q (w1, M1) := fun d M4 hok hd4 ex4 => by
    have p := hok.pl few g hk k6
    refine ⟨_, M4, d, 3, n + 30, rfl, .dat p.pl p.s p.p, hd4, ex4, fun w1 M5 r1 hd5 ex5 => ?_⟩
    rw [r1.plain p.pl]
    exact q d M5 hok hd5 ex5
  cases b with
  | false =>
    rw [x_if, ok_bind]
    refine Ok.of (x := (true, M2)) (by simp) ?_
    simp only [if_true]
    rw [x_ret, ok_bind, x_tup, ok_bind]
    simp only [x_acons, x_anil, x_c, x_call, Option.bind_some, ok_bind]
    refine take_l (m := (kk : Int)) rfl (fun N => by simp) hd2 (by omega) (by omega) (by omega) fun i M3 i0 i1 hd3 up3 => ?_
    have at3 : M3[l]? = some (.lst (hs.map W.d)) := by rw [up3.2 l hl1']; exact at2
    have mk : mkTup (hs.map W.d) = .d (.tuple hs) := mkTup_map
    have mk2 : mkTup [W.d (.str "member"), .d (.int i), .d (.tuple hs)] = .d (.tuple [.str "member", .int i, .tuple hs]) := rfl
    simp only [ok_some, x_var (show ([some (.obj h), some (.d (.tuple (Ss.map sD))), some (.d (.int (kk : Int))), some (.d (.bool false)), some (.obj l), none, none] : Ev)[4]? = some (some (.obj l)) from rfl), x_tupleL, x_lstAt at3, Option.bind_some, mk, mk2]
    rw [if_pos (small_size (by simp)), ok_some]
    exact fin _ M3 ⟨hs, len, .inl ⟨i, i0, i1, rfl, hz⟩⟩ (hd3.mono (by omega)) (ex2.trans (.upd up3))
  | true =>
    obtain ⟨ns, rfl⟩ := holds_ns len hz
    refine Ok.of (x := .nx [some (.obj h), some (.d (.tuple (Ss.map sD))), some (.d (.int (kk : Int))), some (.d (.bool true)), some (.obj l), none, none] M2) (by simp) ?_
    rw [thenQ_nx, ok_seq]
    have at2' : M2[l]? = some (.lst (ns.map fun p => .d (nD p))) := by rw [at2, List.map_map]; rfl
    obtain ⟨J, es⟩ := est_x (M := M2) (l := l) (v0 := some (.obj h)) (v1 := some (.d (.tuple (Ss.map sD)))) (v2 := some (.d (.int (kk : Int)))) (v3 := some (.d (.bool true))) (v5 := none) (v6 := none) at2' (by simp at len; omega)
    rw [x_if, es]
    simp only [Option.bind_some]
    have tail : ∀ (hs : List PyData) (M4 : Mem), hs.length = Ss.length -> (∀ t ∈ Ss.zip hs, HoldOk t.1 true t.2) -> hs.all blankD = false -> HandX M4 h (n + 30) -> Ex1 h M M4 -> M4[l]? = some (.lst (hs.map W.d)) -> Ok (sRet (eTup (aCons (eC (.str "note")) (aCons (eCall fTuple (aCons (eVar 4) aNil)) aNil))) [some (.obj h), some (.d (.tuple (Ss.map sD))), some (.d (.int (kk : Int))), some (.d (.bool true)), some (.obj l), none, none] M4) (fun o => ∃ w M' d' k n', o = .rt w M' /\ Rd (fun i => i == h) M' k w d' /\ HandX M' h n' /\ Ex1 h M M' /\ ∀ w1 M1, Rd (fun i => i == h) M1 k w1 d' -> HandX M1 h n' -> Ex1 h M M1 -> Q (w1, M1)) := fun hs M4 len hz bl hd4 ex4 at4 => by
      have mk : mkTup (hs.map W.d) = .d (.tuple hs) := mkTup_map
      have mk2 : mkTup [W.d (.str "note"), .d (.tuple hs)] = .d (.tuple [.str "note", .tuple hs]) := rfl
      refine Ok.of (x := .rt (.d (.tuple [.str "note", .tuple hs])) M4) ?_ (fin _ M4 ⟨hs, len, .inr ⟨rfl, hz, bl⟩⟩ hd4 ex4)
      generalize PyData.tuple (Ss.map sD) = sds
      simp [at4, mk, mk2, small_size]
    cases hb : ns.all isNo with
    | false =>
      simp only [Bool.false_eq_true, if_false]
      refine Ok.of (x := .nx [some (.obj h), some (.d (.tuple (Ss.map sD))), some (.d (.int (kk : Int))), some (.d (.bool true)), some (.obj l), none, none] (M2 ++ J)) rfl ?_
      rw [thenQ_nx]
      exact tail _ _ len hz (by rw [blank_ns]; exact hb) (hd2.app.mono (by omega)) (ex2.trans .app) (get_old at2)
    | true =>
      simp only [if_true]
      simp only [sPut]
      have mk : mkTup [W.d (.bool true), .d (.int 0)] = .d (.tuple [.bool true, .int 0]) := rfl
      simp only [x_tup, x_acons, x_anil, x_c, Option.bind_some, mk]
      rw [if_pos (small_size (by simp))]
      simp only [Option.bind_some, x_var (show ([some (.obj h), some (.d (.tuple (Ss.map sD))), some (.d (.int (kk : Int))), some (.d (.bool true)), some (.obj l), none, none] : Ev)[4]? = some (some (.obj l)) from rfl)]
      rw [ok_bind]
      have atJ : (M2 ++ J)[l]? = some (.lst ((ns.map nD).map W.d)) := get_old at2
      simp only [List.length_map] at len
      simp only [x_def, x_acons, x_anil, x_call, x_var (show ([some (.obj h), some (.d (.tuple (Ss.map sD))), some (.d (.int (kk : Int))), some (.d (.bool true)), some (.obj l), none, none] : Ev)[4]? = some (some (.obj l)) from rfl), x_var (show ([some (.obj h), some (.d (.tuple (Ss.map sD))), some (.d (.int (kk : Int))), some (.d (.bool true)), some (.obj l), none, none] : Ev)[0]? = some (some (.obj h)) from rfl), Option.bind_some, fLen, x_seqO atJ, List.length_map, List.length_cons, List.length_nil]
      rw [if_pos (by decide)]
      refine take_x hd2.app (by omega) (by omega) (by omega) fun v M3 u0 u1 hd3 up3 => ?_
      have at3 : M3[l]? = some (.lst ((ns.map nD).map W.d)) := by rw [up3.2 l hl1']; exact atJ
      have ij : ixN ns.length v = some v.toNat := ix_in u0 u1
      simp only [asI, Option.bind_some, x_lstAt at3, List.length_map, ij, ok_some]
      rw [thenQ_nx]
      obtain ⟨z1, z2⟩ := holds_set (j := v.toNat) (by simpa using len) g hk (by simp; omega) hz
      have sl := (List.getElem?_eq_some_iff.mp at3).1
      have ex4 : Ex1 h M (M3.set l (.lst (((ns.map nD).map W.d).set v.toNat (.d (.tuple [.bool true, .int 0]))))) := (ex2.trans (Ex1.app.trans (.upd up3))).set hl2
      exact tail _ _ (by simpa using len) z1 z2 (hand_at (hd3.mono (by omega)) (List.getElem?_set_ne hl1')) ex4 (by rw [List.getElem?_set_self sl, List.map_set])
end
end K06
namespace K06
open PySem PySem.Spec PyProof.Rows L2 Sa Va Gn Pg Lx Tr
open Lw (Upd)
open K51 (Tgs dat_tg lst_tg dic_tg tup_tg add_tup txt_num tup_mkTup)
section
variable {av : Nat -> Bool} {M N : Mem} {k h j l K B L : Nat} {w x y : W} {ws us : List W} {d t : PyData} {ds : List PyData} {n : Int}
/-- taken out of a list of things -/
theorem of_bt {Q : W × Mem -> Prop} (hd : HandX M h n) (nb : n < 2 ^ 40) (hl : M[l]? = some (.lst ws)) (ne : l ≠ h) (sz : 0 < ws.length) (sb : ws.length < 100000) (tg : Tgs av M K B L ws)
    (q : ∀ w M', w ∈ ws -> HandX M' h (n + 1) -> Upd h M M' -> Q (w, M')) : Ok (Lx.F__law_of [.obj h, .obj l] M) Q := by
  have big : (ws.length : Int) < 2 ^ 128 := by omega
  simp [Lx.F__law_of, nf, fnV, Lx.g__law_of, hl]
  refine take_x (many := ws.length) hd nb (by omega) big fun v M1 v0 v1 hd1 up => ?_
  have hl1 : M1[l]? = some (.lst ws) := by rw [up.2 l ne]; exact hl
  obtain ⟨j, rfl⟩ : ∃ j : Nat, v = j := ⟨v.toNat, by omega⟩
  have hv : j < ws.length := by omega
  have at1 : atI ws (j : Int) = some (ws[j]) := atI_nat' (by simp)
  obtain ⟨y, hy⟩ := tg _ (List.getElem_mem hv)
  simp [hl1, at1, norm_in hy.r hd1 up]
  exact q _ _ (List.getElem_mem hv) hd1 up
noncomputable def C0 : EvE := (eLst (aCons (eC .none) (aCons (eC (.bool true)) (aCons (eC (.bool false)) (aCons (eC (.int 0)) (aCons (eUn oNeg (eC (.int 1))) (aCons (eC (.int 1)) (aCons (eC (.str "")) (aCons (eC (.str "member")) (aCons (eC (.str "note")) (aCons (eC (.str "state")) (aCons (eTup aNil) (aCons (eLst aNil) (aCons eDict0 (aCons (eTup (aCons (eC (.bool false)) (aCons (eC (.int 0)) aNil))) (aCons (eTup (aCons (eC (.bool true)) (aCons (eC (.int 0)) aNil))) aNil))))))))))))))))
noncomputable def C1 : EvE := (eLst (aCons (eNot (eVar 1)) (aCons (eNot (eVar 1)) (aCons (eNot (eVar 1)) (aCons (eCall fInt (aCons (eVar 1) aNil)) (aCons (eC .none) (aCons (eCall fStrN (aCons (eVar 1) aNil)) aNil)))))))
noncomputable def C2 : EvE := (eLst (aCons (eOp oAddG (eVar 1) (eC (.int 1))) (aCons (eOp oSub (eVar 1) (eC (.int 1))) (aCons (eOp oAddG (eVar 1) (eC (.int 1))) (aCons (eOp oSub (eVar 1) (eC (.int 1))) (aCons (eOp oSub (eC (.int 0)) (eVar 1)) (aCons (eOp oMul (eVar 1) (eC (.int 2))) (aCons (eCall fStrN (aCons (eVar 1) aNil)) aNil))))))))
noncomputable def C4 : EvS := (sSet 3 (eDef 2 (Lx.F__law_of) (aCons (eVar 0) (aCons (eLst (aCons (eTup (aCons (eVar 3) aNil)) (aCons (eLst (aCons (eVar 3) aNil)) (aCons (eTup (aCons (eVar 3) (aCons (eC (.bool false)) aNil))) aNil)))) aNil))))
theorem g_odd_eq : g__law_odd = (sSeq (sSet 2 C0)
    (sSeq (sIf (tVal (eIsi "bool" (eVar 1))) (sSet 2 C1) (sIf (tVal (eIsi "int" (eVar 1))) (sSet 2 (eOp oCat (eVar 2) C2)) sNil))
    (sSeq (sSet 3 (eDef 2 (Lx.F__law_of) (aCons (eVar 0) (aCons (eVar 2) aNil))))
    (sSeq (sFor (iRange1 (aCons (eDef 2 (Lx.F__law_of) (aCons (eVar 0) (aCons (eLst (aCons (eC (.int 0)) (aCons (eC (.int 0)) (aCons (eC (.int 0)) (aCons (eC (.int 0)) (aCons (eC (.int 0)) (aCons (eC (.int 1)) (aCons (eC (.int 8)) aNil)))))))) aNil))) aNil)) (gN 4) C4)
    (sRet (eVar 3)))))) := rfl
def consts (M : Mem) : List W := [.d .none, .d (.bool true), .d (.bool false), .d (.int 0), .d (.int (-1)), .d (.int 1), .d (.str ""), .d (.str "member"), .d (.str "note"), .d (.str "state"), .d (.tuple []), .obj M.length, .obj (M.length + 1), .d (.tuple [.bool false, .int 0]), .d (.tuple [.bool true, .int 0])]
theorem c0_x {ρ : Ev} : C0 ρ M = some (.obj (M.length + 2), M ++ [.lst [], .dic [] 0] ++ [.lst (consts M)]) := by
  have mk1 : mkTup [W.d (.bool false), .d (.int 0)] = .d (.tuple [.bool false, .int 0]) := rfl
  have mk2 : mkTup [W.d (.bool true), .d (.int 0)] = .d (.tuple [.bool true, .int 0]) := rfl
  have d0 : ∀ N : Mem, eDict0 ρ N = some (.obj N.length, N ++ [.dic [] 0]) := fun _ => rfl
  simp [C0, mk1, mk2, d0, small_size, consts]
theorem txt_bl (b : Bool) : txt (.bool b) <= 13 := by simp only [txt]; omega
theorem str_tg {s : Str} (h : s = "" ∨ s = "member" ∨ s = "note" ∨ s = "state" ∨ s = "True" ∨ s = "False") (L1 : 140 <= L) : Tg av M 1 B L (.d (.str s)) (.str s) := by
  refine dat_tg rfl rfl (Nat.zero_le _) rfl (Nat.le_trans (?_ : _ <= 140) L1)
  rcases h with rfl | rfl | rfl | rfl | rfl | rfl <;> (simp only [txt, PyData.shown]; decide +kernel)
theorem int_tg {i : Int} (hi : i.natAbs <= B) (B1 : B <= 1000000) (L1 : 140 <= L) : Tg av M 1 B L (.d (.int i)) (.int i) := dat_tg rfl (by simpa [PyData.showable] using log_small (a := i.natAbs) (by omega)) (Nat.zero_le _) (by simp [intB]; omega) (Nat.le_trans (txt_int (by omega)) (by omega))
theorem bl_tg {b : Bool} (L1 : 140 <= L) : Tg av M 1 B L (.d (.bool b)) (.bool b) := dat_tg rfl rfl (Nat.zero_le _) rfl (Nat.le_trans (txt_bl b) (by omega))
theorem non_tg (L1 : 140 <= L) : Tg av M 1 B L (.d .none) .none := dat_tg rfl rfl (Nat.zero_le _) rfl (by simp only [txt]; omega)
theorem two_tg {b : Bool} (L1 : 140 <= L) : Tg av M 1 B L (.d (.tuple [.bool b, .int 0])) (.tuple [.bool b, .int 0]) := by
  have t1 := txt_bl b
  have t2 := txt_int (i := 0) (by decide)
  exact dat_tg rfl (by simp [PyData.showable, PyData.showableAll]) (by simp [PyData.depth, PyData.depthAll]) (by simp [intB, intA]) (by simp only [txt, txts] at *; omega)
theorem consts_tg (na : av M.length = false) (nb : av (M.length + 1) = false) (B1 : 1 <= B) (B2 : B <= 1000000) (L1 : 140 <= L) {J : Mem} : Tgs av (M ++ [.lst [], .dic [] 0] ++ J) 1 B L (consts M) := by
  intro x hx
  simp only [consts, List.mem_cons, List.not_mem_nil, or_false] at hx
  rcases hx with rfl | rfl | rfl | rfl | rfl | rfl | rfl | rfl | rfl | rfl | rfl | rfl | rfl | rfl | rfl
  · exact ⟨_, non_tg L1⟩
  · exact ⟨_, bl_tg L1⟩
  · exact ⟨_, bl_tg L1⟩
  · exact ⟨_, int_tg (by simp) B2 L1⟩
  · exact ⟨_, int_tg (by simpa using B1) B2 L1⟩
  · exact ⟨_, int_tg (by simpa using B1) B2 L1⟩
  · exact ⟨_, str_tg (.inl rfl) L1⟩
  · exact ⟨_, str_tg (.inr (.inl rfl)) L1⟩
  · exact ⟨_, str_tg (.inr (.inr (.inl rfl))) L1⟩
  · exact ⟨_, str_tg (.inr (.inr (.inr (.inl rfl)))) L1⟩
  · exact ⟨_, dat_tg rfl rfl (by simp [PyData.depth, PyData.depthAll]) rfl (by simp only [txt, txts]; omega)⟩
  · exact ⟨_, lst_tg (k := 0) (us := []) (ds := []) (by simp) na .nil (by simp only [txts]; omega)⟩
  · exact ⟨_, dic_tg (k := 0) (s := 0) (by simp) nb (by omega)⟩
  · exact ⟨_, two_tg L1⟩
  · exact ⟨_, two_tg L1⟩
theorem c1_x {v0 v2 v3 v4 : Option W} {b : Bool} : C1 [v0, some (.d (.bool b)), v2, v3, v4] M = some (.obj M.length, M ++ [.lst [.d (.bool (!b)), .d (.bool (!b)), .d (.bool (!b)), .d (.int (b2i b)), .d .none, .d (.str (if b then "True" else "False"))]]) := by
  cases b <;> simp [C1, fStrN, numText, small_size, b2i]
theorem c2_x {v0 v2 v3 v4 : Option W} {i : Int} (hi : i.natAbs <= 1000000) : C2 [v0, some (.d (.int i)), v2, v3, v4] M = some (.obj M.length, M ++ [.lst [.d (.int (i + 1)), .d (.int (i - 1)), .d (.int (i + 1)), .d (.int (i - 1)), .d (.int (0 - i)), .d (.int (i * 2)), .d (.str (toString i))]]) := by
  have st : fStrN [.d (.int i)] M = some (.d (.str (toString i)), M) := by
    simp [fStrN, numText, log_small hi]
  have ad : ∀ N, oAddG (.d (.int i)) (.d (.int 1)) N = some (.d (.int (i + 1)), N) := fun _ => rfl
  have m2 : CMul i 2 := .inr (by decide)
  simp [C2, st, ad, x_mul m2, small_size]
/-- one turn more -/
theorem turn_t {v1 v2 v4 : Option W} (hd : HandX M h n) (nb : n + 1 < 2 ^ 40) (tg : Tg av M K B L w d) (L1 : 140 <= L) (ah : av h = true) (lim : ∀ i, av i = true -> i < M.length) :
    Ok (C4 [some (.obj h), v1, v2, some w, v4] M) fun o => ∃ w' d' M', o = .nx [some (.obj h), v1, v2, some w', v4] M' /\ Tg av M' (K + 1) B (L + 20) w' d' /\ HandX M' h (n + 1) /\ Ex1 h M M' := by
  have hl := hd.lt
  have nav : av M.length = false := by
    cases z : av M.length with
    | false => rfl
    | true => exact absurd (lim _ z) (Nat.lt_irrefl _)
  have wi := tg.i
  have wt := tg.t
  unfold C4
  have el : eLst (aCons (eTup (aCons (eVar 3) aNil)) (aCons (eLst (aCons (eVar 3) aNil)) (aCons (eTup (aCons (eVar 3) (aCons (eC (.bool false)) aNil))) aNil))) [some (.obj h), v1, v2, some w, v4] M = some (.obj (M.length + 1), M ++ [.lst [w]] ++ [.lst [mkTup [w], .obj M.length, mkTup [w, .d (.bool false)]]]) := by
    simp [small_size]
  rw [x_set, ok_bind]
  simp only [x_def, x_acons, x_anil, x_var (show ([some (.obj h), v1, v2, some w, v4] : Ev)[0]? = some (some (.obj h)) from rfl), el, Option.bind_some, List.length_cons, List.length_nil]
  rw [if_pos (by decide)]
  have r1 : Rd av (M ++ [.lst [w]] ++ [.lst [mkTup [w], .obj M.length, mkTup [w, .d (.bool false)]]]) K w d := by rw [List.append_assoc]; exact tg.r.app
  have ts : Tgs av (M ++ [.lst [w]] ++ [.lst [mkTup [w], .obj M.length, mkTup [w, .d (.bool false)]]]) (K + 1) B (L + 20) [mkTup [w], .obj M.length, mkTup [w, .d (.bool false)]] := by
    intro x hx
    simp only [List.mem_cons, List.not_mem_nil, or_false] at hx
    rcases hx with rfl | rfl | rfl
    · exact ⟨_, tup_tg (k := K) (ds := [d]) (.cons r1 .nil) (by simp only [intA, wi, Bool.and_self]) (by simp only [txts]; omega)⟩
    · exact ⟨_, lst_tg (k := K) (us := [w]) (ds := [d]) (by simp) nav (.cons r1 .nil) (by simp only [txts]; omega)⟩
    · exact ⟨_, tup_tg (k := K) (ds := [d, .bool false]) (.cons r1 (.cons Rd.bool .nil)) (by simp only [intA, intB, wi, Bool.and_self]) (by have := txt_bl false; simp only [txts] at *; omega)⟩
  refine of_bt (l := M.length + 1) hd.app.app (by omega) (by simp) (by omega) (by simp) (by simp) ts fun w' M' hw' hd' up' => ?_
  obtain ⟨d', t'⟩ := ts w' hw'
  rw [ok_some]
  exact ⟨w', d', M', rfl, t'.ex (.upd up') ah, hd', Ex1.app.trans (Ex1.app.trans (.upd up'))⟩
theorem odd_t {Q : W × Mem -> Prop} (hd : HandX M h n) (nb : n + 20 < 2 ^ 40) (r : Rd av M k w d) (wi : intB B d = true) (B1 : 1 <= B) (B2 : B <= 10000) (ah : av h = true) (lim : ∀ i, av i = true -> i < M.length)
    (q : ∀ w' M' d', Tg av M' 12 (2 * B + 2) 300 w' d' -> HandX M' h (n + 10) -> Ex1 h M M' -> Q (w', M')) : Ok (F__law_odd [.obj h, w] M) Q := by
  have hl := hd.lt
  have nav : ∀ i, M.length <= i -> av i = false := fun i hi => by
    cases z : av i with
    | false => rfl
    | true => exact absurd (lim i z) (by omega)
  refine fn_t (av := av) hl lim ?_
  show Ok (g__law_odd [some (.obj h), some w, none, none, none] M) _
  rw [g_odd_eq, ok_seq, x_set, c0_x]
  simp only [Option.bind_some, ok_some, List.set_cons_succ, List.set_cons_zero]
  rw [thenQ_nx, ok_seq]
  have tc : Tgs av (M ++ [.lst [], .dic [] 0] ++ [.lst (consts M)]) 1 (2 * B + 2) 140 (consts M) := consts_tg (nav _ (Nat.le_refl _)) (nav _ (Nat.le_succ _)) (by omega) (by omega) (Nat.le_refl _)
  have cl : (consts M).length = 15 := rfl
  have cg : (M ++ [.lst [], .dic [] 0] ++ [MO.lst (consts M)])[M.length + 2]? = some (.lst (consts M)) := by simp
  have cJ : M ++ [.lst [], .dic [] 0] ++ [MO.lst (consts M)] = M ++ ([.lst [], .dic [] 0] ++ [MO.lst (consts M)]) := by rw [List.append_assoc]
  generalize consts M = ws0 at tc cl cg cJ
  generalize hN : M ++ [.lst [], .dic [] 0] ++ [MO.lst ws0] = N0 at tc cg cJ
  generalize [MO.lst [], .dic [] 0] ++ [MO.lst ws0] = J0 at cJ
  subst cJ
  have s2 : ∃ l2 ws2 J2, (sIf (tVal (eIsi "bool" (eVar 1))) (sSet 2 C1) (sIf (tVal (eIsi "int" (eVar 1))) (sSet 2 (eOp oCat (eVar 2) C2)) sNil)) [some (.obj h), some w, some (.obj (M.length + 2)), none, none] (M ++ J0) = some (.nx [some (.obj h), some w, some (.obj l2), none, none] (M ++ J2)) /\ (M ++ J2)[l2]? = some (.lst ws2) /\ M.length <= l2 /\ Tgs av (M ++ J2) 1 (2 * B + 2) 140 ws2 /\ 0 < ws2.length /\ ws2.length <= 30 := by
    have e1 := isi_rd (T := "bool") (a := eVar 1) (ρ := [some (.obj h), some w, some (.obj (M.length + 2)), none, none]) (r.app (J := J0)) (by simp)
    have e2 := isi_rd (T := "int") (a := eVar 1) (ρ := [some (.obj h), some w, some (.obj (M.length + 2)), none, none]) (r.app (J := J0)) (by simp)
    rw [kd_bool] at e1
    rw [kd_int] at e2
    have none : isBoolD d = false -> isIntD d = false -> (sIf (tVal (eIsi "bool" (eVar 1))) (sSet 2 C1) (sIf (tVal (eIsi "int" (eVar 1))) (sSet 2 (eOp oCat (eVar 2) C2)) sNil)) [some (.obj h), some w, some (.obj (M.length + 2)), none, none] (M ++ J0) = some (.nx [some (.obj h), some w, some (.obj (M.length + 2)), none, none] (M ++ J0)) := fun h1 h2 => by
      rw [h1] at e1
      rw [h1, h2] at e2
      simp [e1, e2, -x_isi]
    cases d with
    | bool b =>
      cases r.bool_eq
      refine ⟨(M ++ J0).length, _, J0 ++ [.lst [.d (.bool (!b)), .d (.bool (!b)), .d (.bool (!b)), .d (.int (b2i b)), .d .none, .d (.str (if b then "True" else "False"))]], ?_, by rw [<- List.append_assoc]; exact List.getElem?_concat_length, by simp, fun x hx => ?_, by simp, by simp⟩
      · rw [x_if, x_tval, e1]
        simp only [Option.bind_some, asB, Option.map_some, isBoolD, if_true]
        rw [x_set, c1_x]
        simp only [Option.bind_some, List.set_cons_succ, List.set_cons_zero]
        rw [List.append_assoc]
      · simp only [List.mem_cons, List.not_mem_nil, or_false] at hx
        rcases hx with rfl | rfl | rfl | rfl | rfl | rfl
        · exact ⟨_, bl_tg (Nat.le_refl _)⟩
        · exact ⟨_, bl_tg (Nat.le_refl _)⟩
        · exact ⟨_, bl_tg (Nat.le_refl _)⟩
        · exact ⟨_, int_tg (by cases b <;> simp [b2i]) (by omega) (Nat.le_refl _)⟩
        · exact ⟨_, non_tg (Nat.le_refl _)⟩
        · exact ⟨_, str_tg (by cases b <;> simp) (Nat.le_refl _)⟩
    | int i =>
      cases r.int_eq
      have hi : i.natAbs <= B := by simpa [intB] using wi
      have c2 := c2_x (M := M ++ J0) (v0 := some (.obj h)) (v2 := some (.obj (M.length + 2))) (v3 := Option.none) (v4 := Option.none) (i := i) (by omega)
      have ct : Tgs av (M ++ J0) 1 (2 * B + 2) 140 [.d (.int (i + 1)), .d (.int (i - 1)), .d (.int (i + 1)), .d (.int (i - 1)), .d (.int (0 - i)), .d (.int (i * 2)), .d (.str (toString i))] := fun x hx => by
        simp only [List.mem_cons, List.not_mem_nil, or_false] at hx
        rcases hx with rfl | rfl | rfl | rfl | rfl | rfl | rfl
        · exact ⟨_, int_tg (by omega) (by omega) (Nat.le_refl _)⟩
        · exact ⟨_, int_tg (by omega) (by omega) (Nat.le_refl _)⟩
        · exact ⟨_, int_tg (by omega) (by omega) (Nat.le_refl _)⟩
        · exact ⟨_, int_tg (by omega) (by omega) (Nat.le_refl _)⟩
        · exact ⟨_, int_tg (by omega) (by omega) (Nat.le_refl _)⟩
        · exact ⟨_, int_tg (by omega) (by omega) (Nat.le_refl _)⟩
        · exact ⟨_, dat_tg rfl rfl (Nat.zero_le _) rfl (Nat.le_trans (txt_num i (by omega)) (by decide))⟩
      have cs7 : ([.d (.int (i + 1)), .d (.int (i - 1)), .d (.int (i + 1)), .d (.int (i - 1)), .d (.int (0 - i)), .d (.int (i * 2)), .d (.str (toString i))] : List W).length = 7 := rfl
      generalize ([.d (.int (i + 1)), .d (.int (i - 1)), .d (.int (i + 1)), .d (.int (i - 1)), .d (.int (0 - i)), .d (.int (i * 2)), .d (.str (toString i))] : List W) = cs at c2 ct cs7
      have cat : oCat (.obj (M.length + 2)) (.obj (M ++ J0).length) (M ++ J0 ++ [.lst cs]) = some (.obj (M ++ J0 ++ [MO.lst cs]).length, M ++ J0 ++ [.lst cs] ++ [.lst (ws0 ++ cs)]) := by
        simp only [oCat, x_lstAt (get_old cg), x_lstAt List.getElem?_concat_length, Option.bind_some]
        rw [if_pos (small_size (by simp [cl, cs7]))]
      have fin : (sIf (tVal (eIsi "bool" (eVar 1))) (sSet 2 C1) (sIf (tVal (eIsi "int" (eVar 1))) (sSet 2 (eOp oCat (eVar 2) C2)) sNil)) [some (.obj h), some (.d (.int i)), some (.obj (M.length + 2)), Option.none, Option.none] (M ++ J0) = some (.nx [some (.obj h), some (.d (.int i)), some (.obj (M ++ J0 ++ [MO.lst cs]).length), Option.none, Option.none] (M ++ J0 ++ [.lst cs] ++ [.lst (ws0 ++ cs)])) := by
        rw [x_if, x_tval, e1]
        simp only [Option.bind_some, asB, Option.map_some, isBoolD, Bool.false_eq_true, if_false]
        rw [x_if, x_tval, e2]
        simp only [Option.bind_some, asB, Option.map_some, isBoolD, isIntD, Bool.or_false, if_true]
        rw [x_set, x_op, x_var (show ([some (.obj h), some (.d (.int i)), some (.obj (M.length + 2)), Option.none, Option.none] : Ev)[2]? = some (some (.obj (M.length + 2))) from rfl)]
        simp only [Option.bind_some]
        rw [c2]
        simp only [Option.bind_some]
        rw [cat]
        simp only [Option.bind_some, List.set_cons_succ, List.set_cons_zero]
      have as : M ++ J0 ++ [MO.lst cs] ++ [.lst (ws0 ++ cs)] = M ++ (J0 ++ [MO.lst cs] ++ [.lst (ws0 ++ cs)]) := by simp
      refine ⟨(M ++ J0 ++ [MO.lst cs]).length, ws0 ++ cs, J0 ++ [.lst cs] ++ [.lst (ws0 ++ cs)], by rw [<- as]; exact fin, by rw [<- as]; exact List.getElem?_concat_length, by simp, by rw [<- as]; exact Tgs.append tc.app.app ct.app.app, by simp; omega, by simp [cl, cs7]⟩
    | _ => exact ⟨M.length + 2, ws0, J0, none rfl rfl, cg, by omega, tc, by omega, by omega⟩
  obtain ⟨l2, ws2, J2, e2, g2, le2, t2, f2, f2'⟩ := s2
  refine Ok.of e2 ?_
  rw [thenQ_nx, ok_seq, x_set, ok_bind]
  simp only [x_def, x_acons, x_anil, x_var (show ([some (.obj h), some w, some (.obj l2), none, none] : Ev)[0]? = some (some (.obj h)) from rfl), x_var (show ([some (.obj h), some w, some (.obj l2), none, none] : Ev)[2]? = some (some (.obj l2)) from rfl), Option.bind_some, List.length_cons, List.length_nil]
  rw [if_pos (by decide)]
  refine of_bt hd.app (by omega) g2 (by omega) f2 (by omega) t2 fun w1 M1 hw1 hd1 up1 => ?_
  obtain ⟨d1, t1⟩ := t2 w1 hw1
  have t1 := t1.ex (Ex1.upd up1) ah
  have ex1 : Ex1 h M M1 := Ex1.app.trans (.upd up1)
  rw [ok_some, thenQ_nx, ok_seq]
  simp only [List.set_cons_succ, List.set_cons_zero]
  rw [x_for, ok_bind, ok_range1]
  have l7 : eLst (aCons (eC (.int 0)) (aCons (eC (.int 0)) (aCons (eC (.int 0)) (aCons (eC (.int 0)) (aCons (eC (.int 0)) (aCons (eC (.int 1)) (aCons (eC (.int 8)) aNil))))))) [some (.obj h), some w, some (.obj l2), some w1, none] M1 = some (.obj M1.length, M1 ++ [.lst [.d (.int 0), .d (.int 0), .d (.int 0), .d (.int 0), .d (.int 0), .d (.int 1), .d (.int 8)]]) := by
    simp [small_size]
  rw [x_acons, ok_bind, x_def, ok_bind]
  simp only [x_acons, x_anil, x_var (show ([some (.obj h), some w, some (.obj l2), some w1, none] : Ev)[0]? = some (some (.obj h)) from rfl), l7, Option.bind_some, ok_some, List.length_cons, List.length_nil]
  rw [if_pos (by decide)]
  have hl1 := hd1.lt
  refine of_x hd1.app (by omega) List.getElem?_concat_length (by omega) (by simp) (by simp) rfl fun wr M2 hwr hd2 up2 => ?_
  obtain ⟨r8, rfl, r8'⟩ : ∃ r8 : Nat, wr = .d (.int (r8 : Int)) /\ r8 <= 8 := by
    simp only [List.mem_cons, List.not_mem_nil, or_false] at hwr
    rcases hwr with rfl | rfl | rfl | rfl | rfl | rfl | rfl
    · exact ⟨0, rfl, by decide⟩
    · exact ⟨0, rfl, by decide⟩
    · exact ⟨0, rfl, by decide⟩
    · exact ⟨0, rfl, by decide⟩
    · exact ⟨0, rfl, by decide⟩
    · exact ⟨1, rfl, by decide⟩
    · exact ⟨8, rfl, by decide⟩
  have exA : Ex1 h M1 M2 := Ex1.app.trans (.upd up2)
  have ex2 := ex1.trans exA
  have t2 := t1.ex exA ah
  refine ⟨(r8 : Int), rfl, InR.of (by omega) (by omega), ?_⟩
  rw [Int.toNat_natCast]
  have len : ((List.range r8).map fun (k : Nat) => W.d (.int (k : Int))).length = r8 := by simp
  refine Ok.mono (for_ok (deps := []) (fun i ρ M' => ∃ w' d' v4, ρ = [some (.obj h), some w, some (.obj l2), some w', v4] /\ Tg av M' (1 + i) (2 * B + 2) (140 + 20 * i) w' d' /\ HandX M' h (n + 2 + i) /\ Ex1 h M M') (fun ρ M' => ∃ w' d' v4, ρ = [some (.obj h), some w, some (.obj l2), some w', v4] /\ Tg av M' 12 (2 * B + 2) 300 w' d' /\ HandX M' h (n + 10) /\ Ex1 h M M') (fun _ _ => False) (items0 := (List.range r8).map fun (k : Nat) => .d (.int (k : Int))) (fun _ _ _ _ _ => by simp)
    (fun ρ M' z => by
      rw [len] at z
      obtain ⟨w', d', v4, e, t, hd, ex⟩ := z
      exact ⟨w', d', v4, e, Tg.up t (by omega) (Nat.le_refl _) (by omega), hd.mono (by omega), ex⟩) (fun i wi ρ M' hw ⟨w', d', v4, hρ, t', hd', ex'⟩ => ?_) _ 0 _ M2 rfl (Nat.zero_le _) ⟨w1, d1, none, rfl, t2, hd2.mono (by omega), ex2⟩) fun o ho => ?_
  · obtain ⟨rfl, hi⟩ := K51.range_get hw
    subst hρ
    simp only [x_gN, ok_some]
    have lim' : ∀ i, av i = true -> i < M'.length := fun i hi => Nat.lt_of_lt_of_le (lim i hi) ex'.1
    refine Ok.mono (turn_t (v4 := some (.d (.int (i : Int)))) hd' (by omega) t' (by omega) ah lim') fun o ⟨w2, d2, M3, eo, tt, hd3, ex3⟩ => ?_
    subst eo
    exact ⟨w2, d2, _, rfl, Tg.up tt (by omega) (Nat.le_refl _) (by omega), by rw [show n + 2 + ((i + 1 : Nat) : Int) = n + 2 + (i : Int) + 1 from by omega]; exact hd3, ex'.trans ex3⟩
  · cases o with
    | nx ρ2 M3 =>
      obtain ⟨w', d', v4, rfl, t', hd', ex'⟩ := ho
      rw [thenQ_nx, x_ret, ok_bind, x_var (show ([some (.obj h), some w, some (.obj l2), some w', v4] : Ev)[3]? = some (some w') from rfl), ok_some, ok_some]
      exact ⟨w', M3, d', _, _, rfl, t'.r, hd', ex', fun w4 M4 r4 hd4 ex4 => q w4 M4 d' ⟨r4, t'.i, t'.t⟩ hd4 ex4⟩
    | rt w2 M2 => exact ho.elim
    | bk ρ2 M2 => exact ho.elim
    | ct ρ2 M2 => exact ho.elim
end
end K06
namespace K06
open PySem PySem.Spec PyProof.Rows L2 Sa Va Gn Pg Lx Tr
open Lw (Upd)
open K51 (Tgs dat_tg lst_tg dic_tg tup_tg add_tup txt_num tup_mkTup cut_to cut_from txts_at intA_sub)
noncomputable def P1 : EvE := (eLst (aCons (eOp oAddG (eSlTv pN (pE (eVar 4)) (eVar 1)) (eSlTv (pE (eOp oAddG (eVar 4) (eC (.int 1)))) pN (eVar 1))) (aCons (eOp oAddG (eSlTv pN (pE (eOp oAddG (eVar 4) (eC (.int 1)))) (eVar 1)) (eSlTv (pE (eVar 4)) pN (eVar 1))) (aCons (eRev (eVar 1)) (aCons (eCall fList (aCons (eVar 1) aNil)) (aCons (eOp oIx (eVar 1) (eVar 4)) aNil))))))
noncomputable def P2 : EvE := (eLst (aCons (eOp oAddG (eOp oAddG (eSlTv pN (pE (eVar 4)) (eVar 1)) (eTup (aCons (eDef 2 (F__law_odd) (aCons (eVar 0) (aCons (eVar 4) aNil))) aNil))) (eSlTv (pE (eVar 4)) pN (eVar 1))) (aCons (eOp oAddG (eVar 1) (eTup (aCons (eDef 2 (F__law_odd) (aCons (eVar 0) (aCons (eVar 4) aNil))) aNil))) aNil)))
noncomputable def P3 : EvE := (eLst (aCons (eOp oAddG (eOp oAddG (eSlTv pN (pE (eVar 4)) (eVar 1)) (eTup (aCons (eOp oIx (eVar 1) (eVar 5)) aNil))) (eSlTv (pE (eOp oAddG (eVar 4) (eC (.int 1)))) pN (eVar 1))) aNil))
theorem g_bent_eq (self : Fn) : g__law_bent self = (sSeq (sSet 3 (eDef 2 (Lx.F__law_take) (aCons (eVar 0) (aCons (eC (.int 12)) aNil))))
    (sSeq (sIf (tOrE (tNotE (tVal (eIsi "tuple" (eVar 1)))) (tVal (eOp oEqE (eVar 1) (eTup aNil)))) (sRet (eDef 2 (F__law_odd) (aCons (eVar 0) (aCons (eVar 1) aNil)))) sNil)
    (sSeq (sPar 4 5 (aCons (eDef 2 (Lx.F__law_take) (aCons (eVar 0) (aCons (eCall fLen (aCons (eVar 1) aNil)) aNil))) (aCons (eDef 2 (Lx.F__law_take) (aCons (eVar 0) (aCons (eCall fLen (aCons (eVar 1) aNil)) aNil))) aNil)))
    (sSeq (sIf (tAndE (tVal (eOp oLt (eVar 3) (eC (.int 9)))) (tVal (eOp oGt (eVar 2) (eC (.int 0))))) (sRet (eOp oAddG (eOp oAddG (eSlTv pN (pE (eVar 4)) (eVar 1)) (eTup (aCons (eDef 3 self (aCons (eVar 0) (aCons (eOp oIx (eVar 1) (eVar 4)) (aCons (eOp oSub (eVar 2) (eC (.int 1))) aNil)))) aNil))) (eSlTv (pE (eOp oAddG (eVar 4) (eC (.int 1)))) pN (eVar 1)))) sNil)
    (sSeq (sSet 6 P1)
    (sSeq (sSet 6 (eOp oCat (eVar 6) P2))
    (sRet (eDef 2 (Lx.F__law_of) (aCons (eVar 0) (aCons (eOp oCat (eVar 6) P3) aNil)))))))))) := rfl
section
variable {av : Nat -> Bool} {M N : Mem} {k h K B L i o : Nat} {w x y : W} {us : List W} {d : PyData} {ds : List PyData} {v0 v2 v3 v5 v6 : Option W}
theorem txts_two (ds : List PyData) : ds.length * 2 <= txts ds := by
  induction ds with
  | nil => simp [txts]
  | cons d ds ih => simp only [List.length_cons, txts]; omega
theorem sl1 (hu : tupOf w = some us) (hi : i <= us.length) : eSlTv pN (pE (eVar 4)) (eVar 1) [v0, some w, v2, v3, some (.d (.int (i : Int))), v5, v6] N = some (mkTup (us.take i), N) := by
  simp [eSlTv, pN, pE, asI, hu, cut_to us i hi]
theorem sl2 (hu : tupOf w = some us) (hi : i < us.length) : eSlTv (pE (eOp oAddG (eVar 4) (eC (.int 1)))) pN (eVar 1) [v0, some w, v2, v3, some (.d (.int (i : Int))), v5, v6] N = some (mkTup (us.drop (i + 1)), N) := by
  have e0 : oAddG (.d (.int (i : Int))) (.d (.int 1)) N = some (.d (.int ((i + 1 : Nat) : Int)), N) := rfl
  simp only [eSlTv, pN, pE, x_op, x_var (show ([v0, some w, v2, v3, some (.d (.int (i : Int))), v5, v6] : Ev)[4]? = some (some (.d (.int (i : Int)))) from rfl), x_var (show ([v0, some w, v2, v3, some (.d (.int (i : Int))), v5, v6] : Ev)[1]? = some (some w) from rfl), x_c, Option.bind_some, e0, asI, hu, cut_from us (i + 1) (by omega)]
theorem sl3 (hu : tupOf w = some us) (hi : i < us.length) : eSlTv pN (pE (eOp oAddG (eVar 4) (eC (.int 1)))) (eVar 1) [v0, some w, v2, v3, some (.d (.int (i : Int))), v5, v6] N = some (mkTup (us.take (i + 1)), N) := by
  have e0 : oAddG (.d (.int (i : Int))) (.d (.int 1)) N = some (.d (.int ((i + 1 : Nat) : Int)), N) := rfl
  simp only [eSlTv, pN, pE, x_op, x_var (show ([v0, some w, v2, v3, some (.d (.int (i : Int))), v5, v6] : Ev)[4]? = some (some (.d (.int (i : Int)))) from rfl), x_var (show ([v0, some w, v2, v3, some (.d (.int (i : Int))), v5, v6] : Ev)[1]? = some (some w) from rfl), x_c, Option.bind_some, e0, asI, hu, cut_to us (i + 1) (by omega)]
theorem sl4 (hu : tupOf w = some us) (hi : i <= us.length) : eSlTv (pE (eVar 4)) pN (eVar 1) [v0, some w, v2, v3, some (.d (.int (i : Int))), v5, v6] N = some (mkTup (us.drop i), N) := by
  simp [eSlTv, pN, pE, asI, hu, cut_from us i hi]
theorem sub_take {ds : List PyData} : ∀ d ∈ ds.take i, d ∈ ds := fun _ h => List.mem_of_mem_take h
theorem sub_drop {ds : List PyData} : ∀ d ∈ ds.drop i, d ∈ ds := fun _ h => List.mem_of_mem_drop h
theorem txts_take_drop (ds : List PyData) (i : Nat) : txts (ds.take i) + txts (ds.drop i) = txts ds := by rw [<- txts_append, List.take_append_drop]
theorem txts_take_le (ds : List PyData) (i : Nat) : txts (ds.take i) <= txts ds := by have := txts_take_drop ds i; omega
theorem txts_drop_le (ds : List PyData) (i : Nat) : txts (ds.drop i) <= txts ds := by have := txts_take_drop ds i; omega
/-- the first five -/
theorem p1_x {v0 v2 v3 v5 v6 : Option W} (hu : tupOf w = some us) (q : RdA av N k us ds) (hi : i < ds.length) (wi : intA B ds = true) (few : us.length <= 100000) (nav : ∀ i, N.length <= i -> av i = false) (kK : k + 1 <= K) (L1 : 2 * txts ds + 3 <= L) :
    ∃ cs J, P1 [v0, some w, v2, v3, some (.d (.int (i : Int))), v5, v6] N = some (.obj (N ++ J).length, N ++ J ++ [.lst cs]) /\ cs.length = 5 /\ Tgs av (N ++ J) K B L cs := by
  have ul := q.length
  obtain ⟨x, gx, rx, ix⟩ := ix_rd q hu hi
  have a1 : oAddG (mkTup (us.take i)) (mkTup (us.drop (i + 1))) N = some (mkTup (us.take i ++ us.drop (i + 1)), N) := add_tup tup_mkTup tup_mkTup (by simp; omega)
  have a2 : oAddG (mkTup (us.take (i + 1))) (mkTup (us.drop i)) N = some (mkTup (us.take (i + 1) ++ us.drop i), N) := add_tup tup_mkTup tup_mkTup (by simp; omega)
  have sq := seq_tup (M := N) hu
  have s1 := fun N => sl1 (N := N) (v0 := v0) (v2 := v2) (v3 := v3) (v5 := v5) (v6 := v6) hu (show i <= us.length by omega)
  have s2 := fun N => sl2 (N := N) (v0 := v0) (v2 := v2) (v3 := v3) (v5 := v5) (v6 := v6) hu (show i < us.length by omega)
  have s3 := fun N => sl3 (N := N) (v0 := v0) (v2 := v2) (v3 := v3) (v5 := v5) (v6 := v6) hu (show i < us.length by omega)
  have s4 := fun N => sl4 (N := N) (v0 := v0) (v2 := v2) (v3 := v3) (v5 := v5) (v6 := v6) hu (show i <= us.length by omega)
  refine ⟨[mkTup (us.take i ++ us.drop (i + 1)), mkTup (us.take (i + 1) ++ us.drop i), mkTup us.reverse, .obj N.length, x], [.lst us], ?_, rfl, ?_⟩
  · simp [P1, fList, sq, hu, a1, a2, s1, s2, s3, s4, ix, small_size, -x_ix]
  · have q' : RdA av (N ++ [.lst us]) k us ds := q.app
    have t1 := txts_at hi
    have t2 := txts_take_le ds (i + 1)
    have t3 := txts_drop_le ds i
    intro y hy
    simp only [List.mem_cons, List.not_mem_nil, or_false] at hy
    rcases hy with rfl | rfl | rfl | rfl | rfl
    · exact ⟨_, Tg.up (tup_tg (k := k) ((q'.take i).append (q'.drop (i + 1))) (intA_sub wi fun d hd => (List.mem_append.mp hd).elim (sub_take d) (sub_drop d)) (L := L) (by rw [txts_append]; omega)) kK (Nat.le_refl _) (Nat.le_refl _)⟩
    · exact ⟨_, Tg.up (tup_tg (k := k) ((q'.take (i + 1)).append (q'.drop i)) (intA_sub wi fun d hd => (List.mem_append.mp hd).elim (sub_take d) (sub_drop d)) (L := L) (by rw [txts_append]; omega)) kK (Nat.le_refl _) (Nat.le_refl _)⟩
    · exact ⟨_, Tg.up (tup_tg (k := k) q'.reverse (intA_sub wi fun d hd => List.mem_reverse.mp hd) (L := L) (by rw [txts_reverse]; omega)) kK (Nat.le_refl _) (Nat.le_refl _)⟩
    · exact ⟨_, Tg.up (lst_tg (k := k) (by simp) (nav _ (Nat.le_refl _)) q' (L := L) (by omega)) kK (Nat.le_refl B) (Nat.le_refl _)⟩
    · exact ⟨_, Tg.up (L := L) ⟨rx.app, intA_all.mp wi _ (List.getElem_mem hi), by omega⟩ (by omega) (Nat.le_refl _) (Nat.le_refl _)⟩
/-- with another one of its own -/
theorem p3_x {v0 v2 v3 v6 : Option W} (hu : tupOf w = some us) (q : RdA av N k us ds) (hi : i < ds.length) (ho : o < ds.length) (wi : intA B ds = true) (few : us.length <= 100000) (kK : k + 1 <= K) (L1 : 2 * txts ds + 3 <= L) :
    ∃ c, P3 [v0, some w, v2, v3, some (.d (.int (i : Int))), some (.d (.int (o : Int))), v6] N = some (.obj N.length, N ++ [.lst [c]]) /\ Tgs av N K B L [c] := by
  have ul := q.length
  obtain ⟨x, gx, rx, ix⟩ := ix_rd q hu ho
  have a1 : oAddG (mkTup (us.take i)) (mkTup [x]) N = some (mkTup (us.take i ++ [x]), N) := add_tup tup_mkTup tup_mkTup (by simp; omega)
  have a2 : oAddG (mkTup (us.take i ++ [x])) (mkTup (us.drop (i + 1))) N = some (mkTup (us.take i ++ [x] ++ us.drop (i + 1)), N) := add_tup tup_mkTup tup_mkTup (by simp; omega)
  have s1 := fun N => sl1 (N := N) (v0 := v0) (v2 := v2) (v3 := v3) (v5 := some (.d (.int (o : Int)))) (v6 := v6) hu (show i <= us.length by omega)
  have s2 := fun N => sl2 (N := N) (v0 := v0) (v2 := v2) (v3 := v3) (v5 := some (.d (.int (o : Int)))) (v6 := v6) hu (show i < us.length by omega)
  refine ⟨mkTup (us.take i ++ [x] ++ us.drop (i + 1)), ?_, ?_⟩
  · simp only [P3, x_lst, x_acons, x_anil, x_op, x_tup, s1, s2, x_var (show ([v0, some w, v2, v3, some (.d (.int (i : Int))), some (.d (.int (o : Int))), v6] : Ev)[1]? = some (some w) from rfl), x_var (show ([v0, some w, v2, v3, some (.d (.int (i : Int))), some (.d (.int (o : Int))), v6] : Ev)[5]? = some (some (.d (.int (o : Int)))) from rfl), Option.bind_some, ix, List.length_cons, List.length_nil]
    rw [if_pos (by decide)]
    simp only [Option.bind_some, a1, a2]
    rw [if_pos (small_size (by simp))]
  · have t1 := txts_at hi
    have t2 := txts_at ho
    intro y hy
    rw [List.mem_singleton.mp hy]
    refine ⟨_, Tg.up (tup_tg (k := k) (ds := ds.take i ++ [ds[o]] ++ ds.drop (i + 1)) (((q.take i).append (.cons rx .nil)).append (q.drop (i + 1))) (intA_sub wi fun d hd => ?_) (L := L) ?_) kK (Nat.le_refl _) (Nat.le_refl _)⟩
    · rcases List.mem_append.mp hd with z | z
      · rcases List.mem_append.mp z with z | z
        · exact sub_take d z
        · rw [List.mem_singleton.mp z]; exact List.getElem_mem ho
      · exact sub_drop d z
    · simp only [txts_append, txts]; omega
end
end K06
namespace K06
open PySem PySem.Spec PyProof.Rows L2 Sa Va Gn Pg Lx Tr
open Lw (Upd)
open K51 (Tgs dat_tg lst_tg dic_tg tup_tg add_tup txt_num tup_mkTup cut_to cut_from txts_at intA_sub)
section
variable {av : Nat -> Bool} {M N : Mem} {k h j K B L i o : Nat} {w x y : W} {ws us : List W} {d t : PyData} {ds : List PyData} {n m : Int} {v0 v2 v3 v5 v6 : Option W}
/-- something put in -/
theorem p2_x {Q : W × Mem -> Prop} (hd : HandX N h n) (nb : n + 50 < 2 ^ 40) (hu : tupOf w = some us) (q : RdA av N k us ds) (hi : i < ds.length) (wi : intA B ds = true) (iB : i <= B) (B1 : 1 <= B) (B2 : B <= 10000) (few : us.length <= 100000) (ah : av h = true) (lim : ∀ i, av i = true -> i < N.length) (kK : k + 1 <= K) (K13 : 13 <= K) (L1 : txts ds + 305 <= L)
    (qq : ∀ cs N', cs.length = 2 -> Tgs av N' K (2 * B + 2) L cs -> HandX N' h (n + 20) -> Ex1 h N N' -> Q (.obj N'.length, N' ++ [.lst cs])) : Ok (P2 [some (.obj h), some w, v2, v3, some (.d (.int (i : Int))), v5, v6] N) Q := by
  have ul := q.length
  have hI : ∀ (X : Mem), Rd av X 0 (.d (.int (i : Int))) (.int (i : Int)) := fun X => Rd.int (log_small (by omega))
  have hB : intB B (.int (i : Int)) = true := by simpa [intB] using iB
  have e0 : ([some (.obj h), some w, v2, v3, some (.d (.int (i : Int))), v5, v6] : Ev)[0]? = some (some (.obj h)) := rfl
  have e1 : ([some (.obj h), some w, v2, v3, some (.d (.int (i : Int))), v5, v6] : Ev)[1]? = some (some w) := rfl
  have e4 : ([some (.obj h), some w, v2, v3, some (.d (.int (i : Int))), v5, v6] : Ev)[4]? = some (some (.d (.int (i : Int)))) := rfl
  have s1 := fun N => sl1 (N := N) (v0 := some (.obj h)) (v2 := v2) (v3 := v3) (v5 := v5) (v6 := v6) hu (show i <= us.length by omega)
  have s4 := fun N => sl4 (N := N) (v0 := some (.obj h)) (v2 := v2) (v3 := v3) (v5 := v5) (v6 := v6) hu (show i <= us.length by omega)
  unfold P2
  rw [x_lst, ok_bind, x_acons, ok_bind, x_op, ok_bind, x_op, s1]
  simp only [Option.bind_some]
  rw [ok_bind, x_tup, ok_bind, x_acons, ok_bind, x_def]
  simp only [x_acons, x_anil, x_var e0, x_var e4, Option.bind_some, List.length_cons, List.length_nil]
  rw [if_pos (by decide)]
  refine odd_t (B := B) hd (by omega) (hI N) hB B1 B2 ah lim fun w1 M1 d1 t1 hd1 ex1 => ?_
  have q1 : RdA av M1 k us ds := q.ex ex1 ah
  have lim1 : ∀ i, av i = true -> i < M1.length := fun i hi => Nat.lt_of_lt_of_le (lim i hi) ex1.1
  have a1 : oAddG (mkTup (us.take i)) (mkTup [w1]) M1 = some (mkTup (us.take i ++ [w1]), M1) := add_tup tup_mkTup tup_mkTup (by simp; omega)
  have a2 : oAddG (mkTup (us.take i ++ [w1])) (mkTup (us.drop i)) M1 = some (mkTup (us.take i ++ [w1] ++ us.drop i), M1) := add_tup tup_mkTup tup_mkTup (by simp; omega)
  simp only [ok_some, List.length_cons, List.length_nil]
  rw [if_pos (by decide), ok_some]
  simp only [a1, ok_some, s4, Option.bind_some, a2]
  rw [x_op, x_var e1]
  simp only [Option.bind_some]
  rw [ok_bind, ok_bind, ok_bind, x_tup, ok_bind]
  simp only [x_def, x_acons, x_anil, x_var e0, x_var e4, Option.bind_some, List.length_cons, List.length_nil]
  rw [if_pos (by decide), ok_bind]
  refine odd_t (B := B) hd1 (by omega) (hI M1) hB B1 B2 ah lim1 fun w2 M2 d2 t2 hd2 ex2 => ?_
  have q2 : RdA av M2 k us ds := q1.ex ex2 ah
  have a3 : oAddG w (mkTup [w2]) M2 = some (mkTup (us ++ [w2]), M2) := add_tup hu tup_mkTup (by simp; omega)
  simp only [ok_some, List.length_cons, List.length_nil, Option.bind_some]
  rw [if_pos (by decide), ok_some]
  simp only [a3, ok_some, List.length_cons, List.length_nil]
  rw [if_pos (small_size (by simp)), ok_some]
  have tt1 := t1.ex ex2 ah
  have r1 := t1.t
  have r2 := t2.t
  have i1 := t1.i
  have i2 := t2.i
  have wi' : intA (2 * B + 2) ds = true := intA_all.mpr fun d hd => intB_mono (by omega) (intA_all.mp wi d hd)
  have td := txts_take_drop ds i
  refine qq _ M2 rfl (fun y hy => ?_) (hd2.mono (by omega)) (ex1.trans ex2)
  simp only [List.mem_cons, List.not_mem_nil, or_false] at hy
  have ql : RdA av M2 (K - 1) us ds := q2.to (by omega) fun _ _ _ z => z
  rcases hy with rfl | rfl
  · refine ⟨_, Tg.up (tup_tg (k := K - 1) (ds := ds.take i ++ [d1] ++ ds.drop i) (((ql.take i).append (.cons (tt1.r.up (by omega)) .nil)).append (ql.drop i)) (intA_all.mpr fun d hd => ?_) (L := L) ?_) (by omega) (Nat.le_refl _) (Nat.le_refl _)⟩
    · rcases List.mem_append.mp hd with z | z
      · rcases List.mem_append.mp z with z | z
        · exact intA_all.mp wi' d (sub_take d z)
        · rw [List.mem_singleton.mp z]; exact i1
      · exact intA_all.mp wi' d (sub_drop d z)
    · simp only [txts_append, txts]; omega
  · refine ⟨_, Tg.up (tup_tg (k := K - 1) (ds := ds ++ [d2]) (ql.append (.cons (t2.r.up (by omega)) .nil)) (intA_all.mpr fun d hd => ?_) (L := L) ?_) (by omega) (Nat.le_refl _) (Nat.le_refl _)⟩
    · rcases List.mem_append.mp hd with z | z
      · exact intA_all.mp wi' d z
      · rw [List.mem_singleton.mp z]; exact i2
    · simp only [txts_append, txts]; omega
theorem bent_t (B1 : 1 <= B) (B2 : B <= 9000) (ah : av h = true) : ∀ (f k : Nat) (e : Int) (w : W) (d : PyData) (M : Mem) (n : Int) (Q : W × Mem -> Prop), 1 <= f -> e < f -> f <= 100 -> Rd av M k w d -> intB B d = true -> txt d <= 2 * B -> HandX M h n -> n + 60 * f + 1000 < 2 ^ 40 -> (∀ i, av i = true -> i < M.length) ->
    (∀ w' M' d', Rd av M' (k + 14) w' d' -> intB (2 * B + 2) d' = true -> txt d' <= 2 * txt d + 400 -> HandX M' h (n + 60 * f) -> Ex1 h M M' -> Q (w', M')) -> Ok (F__law_bent f [.obj h, w, .d (.int e)] M) Q
  | 0, k, e, w, d, M, n, Q, f1, kf, f100, r, i, t, hd, nb, lim, q => by omega
  | f + 1, k, e, w, d, M, n, Q, f1, kf, f100, r, i, t, hd, nb, lim, q => by
    have hl := hd.lt
    show Ok (nf (fnV 7 (g__law_bent (F__law_bent f))) [.obj h, w, .d (.int e)] M) Q
    refine fn_t (av := av) hl lim ?_
    show Ok (g__law_bent (F__law_bent f) [some (.obj h), some w, some (.d (.int e)), none, none, none, none] M) _
    rw [g_bent_eq, ok_seq, x_set, ok_bind]
    refine take_l (m := 12) rfl (fun N => by simp) hd (by omega) (by decide) (by decide) fun way M1 _ _ hd1 up1 => ?_
    rw [ok_some, thenQ_nx, ok_seq]
    simp only [List.set_cons_succ, List.set_cons_zero]
    have r1 := r.ex (Ex1.upd up1) ah
    have lim1 : ∀ i, av i = true -> i < M1.length := fun i hi => by rw [up1.1]; exact lim i hi
    have fin : ∀ w' M' d' k', Rd av M' k' w' d' -> k' <= k + 14 -> intB (2 * B + 2) d' = true -> txt d' <= 2 * txt d + 400 -> HandX M' h (n + 60 * ((f + 1 : Nat) : Int)) -> Ex1 h M M' -> ∃ w M1 d k n, (Out.rt w' M' = .rt w M1) /\ Rd av M1 k w d /\ HandX M1 h n /\ Ex1 h M M1 /\ ∀ w1 M2, Rd av M2 k w1 d -> HandX M2 h n -> Ex1 h M M2 -> Q (w1, M2) := fun w' M' d' k' r' kk i' t' hd' ex' => ⟨w', M', d', k', _, rfl, r', hd', ex', fun w2 M2 r2 hd2 ex2 => q w2 M2 d' (r2.up kk) i' t' hd2 ex2⟩
    have odd : ∀ (N : Mem), N = M1 -> Ok (sRet (eDef 2 (F__law_odd) (aCons (eVar 0) (aCons (eVar 1) aNil))) [some (.obj h), some w, some (.d (.int e)), some (.d (.int way)), none, none, none] N) fun o => ∃ w M' d k n, o = .rt w M' /\ Rd av M' k w d /\ HandX M' h n /\ Ex1 h M M' /\ ∀ w1 M1, Rd av M1 k w1 d -> HandX M1 h n -> Ex1 h M M1 -> Q (w1, M1) := fun N hN => by
      subst hN
      rw [x_ret, ok_bind]
      simp only [x_def, x_acons, x_anil, x_var (show ([some (.obj h), some w, some (.d (.int e)), some (.d (.int way)), none, none, none] : Ev)[0]? = some (some (.obj h)) from rfl), x_var (show ([some (.obj h), some w, some (.d (.int e)), some (.d (.int way)), none, none, none] : Ev)[1]? = some (some w) from rfl), Option.bind_some, List.length_cons, List.length_nil]
      rw [if_pos (by decide)]
      refine odd_t hd1 (by omega) r1 i B1 (by omega) ah lim1 fun w' M' d' t' hd' ex' => ?_
      rw [ok_some]
      exact fin w' M' d' 12 t'.r (by omega) t'.i (by have := t'.t; omega) (hd'.mono (by omega)) ((Ex1.upd up1).trans ex')
    have e1 := isi_rd (T := "tuple") (a := eVar 1) (ρ := [some (.obj h), some w, some (.d (.int e)), some (.d (.int way)), none, none, none]) r1 (by simp)
    rw [kd_tup] at e1
    cases hk : isTupD d with
    | false =>
      rw [hk] at e1
      have t1 : (tOrE (tNotE (tVal (eIsi "tuple" (eVar 1)))) (tVal (eOp oEqE (eVar 1) (eTup aNil)))) [some (.obj h), some w, some (.d (.int e)), some (.d (.int way)), none, none, none] M1 = some (true, M1) := by simp [e1, -x_isi]
      rw [x_if, t1]
      simp only [Option.bind_some, if_true]
      exact Ok.mono (odd M1 rfl) fun o ⟨w', M', d', k', n', eo, hh⟩ => by subst eo; exact ⟨w', M', d', k', n', rfl, hh⟩
    | true =>
      rw [hk] at e1
      cases d with
      | tuple ds =>
        obtain ⟨us, hu, m, rfl, qa⟩ := r1.isTup
        have ne : oEqE w (.d (.tuple [])) M1 = some (.d (.bool us.isEmpty), M1) := by simp [oEqE, hu, isE]
        cases he : us.isEmpty with
        | true =>
          rw [he] at ne
          have t1 : (tOrE (tNotE (tVal (eIsi "tuple" (eVar 1)))) (tVal (eOp oEqE (eVar 1) (eTup aNil)))) [some (.obj h), some w, some (.d (.int e)), some (.d (.int way)), none, none, none] M1 = some (true, M1) := by simp [e1, ne, small_size, -x_isi]
          rw [x_if, t1]
          simp only [Option.bind_some, if_true]
          exact Ok.mono (odd M1 rfl) fun o ⟨w', M', d', k', n', eo, hh⟩ => by subst eo; exact ⟨w', M', d', k', n', rfl, hh⟩
        | false =>
          rw [he] at ne
          have t1 : (tOrE (tNotE (tVal (eIsi "tuple" (eVar 1)))) (tVal (eOp oEqE (eVar 1) (eTup aNil)))) [some (.obj h), some w, some (.d (.int e)), some (.d (.int way)), none, none, none] M1 = some (false, M1) := by simp [e1, ne, small_size, -x_isi]
          rw [x_if, t1]
          simp only [Option.bind_some, Bool.false_eq_true, if_false]
          refine Ok.of (x := .nx [some (.obj h), some w, some (.d (.int e)), some (.d (.int way)), none, none, none] M1) rfl ?_
          rw [thenQ_nx, ok_seq]
          have lu : us.length = ds.length := qa.length
          have tt := txts_two ds
          have t' : txts ds + 3 <= 2 * B := by simpa only [txt] using t
          have pos : 0 < us.length := by cases us with | nil => cases he | cons => simp
          have wi : intA B ds = true := by simpa only [intB] using i
          have ln : ∀ N, eCall fLen (aCons (eVar 1) aNil) [some (.obj h), some w, some (.d (.int e)), some (.d (.int way)), none, none, none] N = some (.d (.int (us.length : Int)), N) := fun N => by simp [seq_tup (M := N) hu]
          rw [x_par, ok_bind, x_acons, ok_bind]
          refine take_l (m := (us.length : Int)) rfl ln hd1 (by omega) (by omega) (by omega) fun a1 M2 a10 a11 hd2 up2 => ?_
          rw [ok_bind, x_acons, ok_bind]
          refine take_l (m := (us.length : Int)) rfl ln hd2 (by omega) (by omega) (by omega) fun a2 M3 a20 a21 hd3 up3 => ?_
          obtain ⟨i0, rfl⟩ : ∃ i : Nat, a1 = (i : Int) := ⟨a1.toNat, by omega⟩
          obtain ⟨o0, rfl⟩ : ∃ i : Nat, a2 = (i : Int) := ⟨a2.toNat, by omega⟩
          have il : i0 < ds.length := by omega
          have ol : o0 < ds.length := by omega
          simp only [x_anil, Option.bind_some, ok_some, List.set_cons_succ, List.set_cons_zero]
          rw [thenQ_nx, ok_seq]
          have up : Upd h M M3 := up1.trans (up2.trans up3)
          have upx : Upd h M1 M3 := up2.trans up3
          have q3 : RdA av M3 m us ds := qa.ex (Ex1.upd upx) ah
          have lim3 : ∀ i, av i = true -> i < M3.length := fun i hi => by rw [up.1]; exact lim i hi
          have nav3 : ∀ i, M3.length <= i -> av i = false := fun i hi => by
            cases z : av i with
            | false => rfl
            | true => exact absurd (lim3 i z) (by omega)
          have rest : ∀ (N : Mem), N = M3 -> Ok ((sSeq (sSet 6 P1) (sSeq (sSet 6 (eOp oCat (eVar 6) P2)) (sRet (eDef 2 (Lx.F__law_of) (aCons (eVar 0) (aCons (eOp oCat (eVar 6) P3) aNil)))))) [some (.obj h), some w, some (.d (.int e)), some (.d (.int way)), some (.d (.int (i0 : Int))), some (.d (.int (o0 : Int))), none] N) fun o => ∃ w M' d k n, o = .rt w M' /\ Rd av M' k w d /\ HandX M' h n /\ Ex1 h M M' /\ ∀ w1 M1, Rd av M1 k w1 d -> HandX M1 h n -> Ex1 h M M1 -> Q (w1, M1) := fun N hN => by
            subst hN
            have wi' : intA (2 * B + 2) ds = true := intA_all.mpr fun d hd => intB_mono (by omega) (intA_all.mp wi d hd)
            obtain ⟨cs, J, p1, c5, tg1⟩ := p1_x (B := 2 * B + 2) (K := m + 14) (L := 2 * txts ds + 406) (v0 := some (.obj h)) (v2 := some (.d (.int e))) (v3 := some (.d (.int way))) (v5 := some (.d (.int (o0 : Int)))) (v6 := none) hu q3 il wi' (by omega) nav3 (by omega) (by omega)
            rw [ok_seq, x_set, p1]
            simp only [Option.bind_some, ok_some, List.set_cons_succ, List.set_cons_zero]
            rw [thenQ_nx, ok_seq, x_set, ok_bind, x_op]
            have v6' : ∀ l6 : Nat, ([some (.obj h), some w, some (.d (.int e)), some (.d (.int way)), some (.d (.int (i0 : Int))), some (.d (.int (o0 : Int))), some (.obj l6)] : Ev)[6]? = some (some (.obj l6)) := fun _ => rfl
            have v0' : ∀ l6 : Nat, ([some (.obj h), some w, some (.d (.int e)), some (.d (.int way)), some (.d (.int (i0 : Int))), some (.d (.int (o0 : Int))), some (.obj l6)] : Ev)[0]? = some (some (.obj h)) := fun _ => rfl
            rw [x_var (v6' _)]
            simp only [Option.bind_some]
            rw [ok_bind]
            have hl3 := hd3.lt
            have g1 : (N ++ J ++ [MO.lst cs])[(N ++ J).length]? = some (.lst cs) := List.getElem?_concat_length
            have ne1 : (N ++ J).length ≠ h := by simp; omega
            have hd4 : HandX (N ++ J ++ [MO.lst cs]) h (n + 3) := hd3.app.app.mono (by omega)
            have ex4 : Ex1 h M (N ++ J ++ [MO.lst cs]) := (Ex1.upd up).trans (Ex1.app.trans .app)
            have tg4 : Tgs av (N ++ J ++ [MO.lst cs]) (m + 14) (2 * B + 2) (2 * txts ds + 406) cs := tg1.app
            have q4 : RdA av (N ++ J ++ [MO.lst cs]) m us ds := q3.app.app
            have lim4 : ∀ i, av i = true -> i < (N ++ J ++ [MO.lst cs]).length := fun i hi => by have := lim3 i hi; simp; omega
            generalize (N ++ J).length = l6 at g1 ne1 ⊢
            generalize N ++ J ++ [MO.lst cs] = N4 at g1 hd4 ex4 tg4 q4 lim4 ⊢
            refine p2_x (B := B) (K := m + 14) (L := 2 * txts ds + 406) hd4 (by omega) hu q4 il wi (by omega) B1 (by omega) (by omega) ah lim4 (by omega) (by omega) (by omega) fun c2 N5 c2l tg5 hd5 ex5 => ?_
            have g2 : N5[l6]? = some (.lst cs) := ex5.at g1 ne1
            have hl5 := hd5.lt
            have cat1 : oCat (.obj l6) (.obj N5.length) (N5 ++ [.lst c2]) = some (.obj (N5 ++ [MO.lst c2]).length, N5 ++ [.lst c2] ++ [.lst (cs ++ c2)]) := by
              simp only [oCat, x_lstAt (get_old g2), x_lstAt List.getElem?_concat_length, Option.bind_some]
              rw [if_pos (small_size (by first | omega | (simp; omega)))]
            simp only [cat1, ok_some]
            rw [thenQ_nx]
            simp only [List.set_cons_succ, List.set_cons_zero]
            rw [x_ret, ok_bind, x_def, ok_bind, x_acons, x_var (v0' _)]
            simp only [Option.bind_some]
            rw [ok_bind, x_acons, ok_bind, x_op, x_var (v6' _)]
            simp only [Option.bind_some]
            have ex6 : Ex1 h M (N5 ++ [MO.lst c2] ++ [.lst (cs ++ c2)]) := ex4.trans (ex5.trans (Ex1.app.trans .app))
            have hd6 : HandX (N5 ++ [MO.lst c2] ++ [.lst (cs ++ c2)]) h (n + 30) := hd5.app.app.mono (by omega)
            have q6 : RdA av (N5 ++ [MO.lst c2] ++ [.lst (cs ++ c2)]) m us ds := (q4.ex ex5 ah).app.app
            have tg6 : Tgs av (N5 ++ [MO.lst c2] ++ [.lst (cs ++ c2)]) (m + 14) (2 * B + 2) (2 * txts ds + 406) (cs ++ c2) := Tgs.append (tg4.ex ex5 ah).app.app tg5.app.app
            have g6 : (N5 ++ [MO.lst c2] ++ [MO.lst (cs ++ c2)])[(N5 ++ [MO.lst c2]).length]? = some (.lst (cs ++ c2)) := List.getElem?_concat_length
            have l7 : (cs ++ c2).length = 7 := by simp; omega
            have ne6 : h < (N5 ++ [MO.lst c2]).length := by simp; omega
            generalize (N5 ++ [MO.lst c2]).length = l6 at g6 ne6 ⊢
            generalize N5 ++ [MO.lst c2] ++ [MO.lst (cs ++ c2)] = N6 at ex6 hd6 q6 tg6 g6 ⊢
            generalize cs ++ c2 = c7 at tg6 g6 l7
            obtain ⟨c, p3, tg7⟩ := p3_x (B := 2 * B + 2) (K := m + 14) (L := 2 * txts ds + 406) (v0 := some (.obj h)) (v2 := some (.d (.int e))) (v3 := some (.d (.int way))) (v6 := some (.obj l6)) hu q6 il ol wi' (by omega) (by omega) (by omega)
            rw [p3]
            simp only [Option.bind_some]
            have hl6 := hd6.lt
            have cat2 : oCat (.obj l6) (.obj N6.length) (N6 ++ [.lst [c]]) = some (.obj (N6 ++ [MO.lst [c]]).length, N6 ++ [.lst [c]] ++ [.lst (c7 ++ [c])]) := by
              simp only [oCat, x_lstAt (get_old g6), x_lstAt List.getElem?_concat_length, Option.bind_some]
              rw [if_pos (small_size (by first | omega | (simp; omega)))]
            rw [cat2]
            simp only [x_anil, Option.bind_some, ok_some, List.length_cons, List.length_nil]
            rw [if_pos (by decide)]
            have tg8 : Tgs av (N6 ++ [.lst [c]] ++ [.lst (c7 ++ [c])]) (m + 14) (2 * B + 2) (2 * txts ds + 406) (c7 ++ [c]) := Tgs.append tg6.app.app tg7.app.app
            refine of_bt hd6.app.app (by omega) List.getElem?_concat_length (by simp; omega) (by simp) (by simp; omega) tg8 fun w' M' hw' hd' up' => ?_
            obtain ⟨d', t8⟩ := tg8 w' hw'
            have t9 := t8.ex (Ex1.upd up') ah
            exact fin w' M' d' (m + 14) t9.r (by omega) t9.i (by have := t9.t; simp only [txt]; omega) (hd'.mono (by omega)) (ex6.trans (Ex1.app.trans (Ex1.app.trans (.upd up'))))
          rw [x_if, ok_bind]
          by_cases z : way < 9 /\ 0 < e
          · refine Ok.of (x := (true, M3)) (by simp [z.1, z.2]) ?_
            simp only [if_true]
            rw [x_ret, ok_bind, x_op, ok_bind, x_op, ok_bind]
            obtain ⟨x, gx, rx, ix⟩ := ix_rd (j := i0) q3 hu il
            rw [sl1 hu (by omega), ok_some, ok_bind, x_tup, ok_bind, x_acons, ok_bind]
            have e0 : ([some (.obj h), some w, some (.d (.int e)), some (.d (.int way)), some (.d (.int (i0 : Int))), some (.d (.int (o0 : Int))), none] : Ev)[0]? = some (some (.obj h)) := rfl
            have e1' : ([some (.obj h), some w, some (.d (.int e)), some (.d (.int way)), some (.d (.int (i0 : Int))), some (.d (.int (o0 : Int))), none] : Ev)[1]? = some (some w) := rfl
            have e2 : ([some (.obj h), some w, some (.d (.int e)), some (.d (.int way)), some (.d (.int (i0 : Int))), some (.d (.int (o0 : Int))), none] : Ev)[2]? = some (some (.d (.int e))) := rfl
            have e4 : ([some (.obj h), some w, some (.d (.int e)), some (.d (.int way)), some (.d (.int (i0 : Int))), some (.d (.int (o0 : Int))), none] : Ev)[4]? = some (some (.d (.int (i0 : Int)))) := rfl
            have sb : oSub (.d (.int e)) (.d (.int 1)) M3 = some (.d (.int (e - 1)), M3) := rfl
            simp only [x_def, x_acons, x_anil, x_op, x_c, x_var e0, x_var e1', x_var e2, x_var e4, Option.bind_some, ix, sb, List.length_cons, List.length_nil]
            rw [if_pos (by decide)]
            have te : txt ds[i0] <= 2 * B := by
              have := txt_mem (List.getElem_mem il)
              omega
            have ie : intB B ds[i0] = true := intA_all.mp wi _ (List.getElem_mem il)
            refine bent_t B1 B2 ah f m (e - 1) x ds[i0] M3 (n + 3) _ (by omega) (by omega) (by omega) rx ie te (hd3.mono (by omega)) (by omega) lim3 fun w' M4 d' r' i' t'' hd' ex' => ?_
            simp only [ok_some, List.length_cons, List.length_nil]
            rw [if_pos (by decide), ok_some]
            have ad1 := add_tup (M := M4) (tup_mkTup (ws := us.take i0)) (tup_mkTup (ws := [w'])) (by simp; omega)
            rw [ad1, ok_some, ok_bind, sl2 hu (by omega), ok_some]
            have ad2 := add_tup (M := M4) (tup_mkTup (ws := us.take i0 ++ [w'])) (tup_mkTup (ws := us.drop (i0 + 1))) (by simp; omega)
            rw [ad2, ok_some]
            simp only [ok_some, thenQ]
            have exM : Ex1 h M M4 := (Ex1.upd up).trans ex'
            have qm : RdA av M4 (m + 14) us ds := (q3.ex ex' ah).to (by omega) fun _ _ _ z => z
            have res : Rd av M4 (m + 14 + 1) (mkTup (us.take i0 ++ [w'] ++ us.drop (i0 + 1))) (.tuple (ds.take i0 ++ [d'] ++ ds.drop (i0 + 1))) := RdA.tup (((qm.take i0).append (.cons r' .nil)).append (qm.drop (i0 + 1)))
            refine fin _ M4 _ _ res (by omega) ?_ ?_ (hd'.mono (by push_cast; omega)) exM
            · simp only [intB]
              rw [intA_all]
              intro e he'
              have old : ∀ e ∈ ds, intB (2 * B + 2) e = true := fun e he => intB_mono (by omega) (intA_all.mp wi e he)
              rcases List.mem_append.mp he' with z1 | z1
              · rcases List.mem_append.mp z1 with z2 | z2
                · exact old e (List.mem_of_mem_take z2)
                · rw [List.mem_singleton.mp z2]; exact i'
              · exact old e (List.mem_of_mem_drop z1)
            · have ta := txts_at il
              simp only [txt, txts_append, txts] at ta ⊢
              omega
          · refine Ok.of (x := (false, M3)) ?_ ?_
            · by_cases z1 : way < 9
              · have z2 : ¬ 0 < e := fun h => z ⟨z1, h⟩
                simp [z1, z2]
              · simp [z1]
            simp only [Bool.false_eq_true, if_false]
            refine Ok.of (x := .nx [some (.obj h), some w, some (.d (.int e)), some (.d (.int way)), some (.d (.int (i0 : Int))), some (.d (.int (o0 : Int))), none] M3) rfl ?_
            rw [thenQ_nx]
            exact rest M3 rfl
      | _ => cases hk
end
end K06
namespace K06
open PySem PySem.Spec PyProof.Rows L2 Sa Va Gn Pg Lx Tr
open Lw (Upd GoodS cm_left cm_right size_pos size_le DrawnH)
open K51 (Tgs dat_tg lst_tg dic_tg tup_tg add_tup txt_num tup_mkTup cut_to cut_from txts_at intA_sub)
noncomputable def BL : EvS := (sSeq (sPar 13 14 (aCons (eCall fRepW (aCons (eVar 12) aNil)) (aCons (eDef 2 (K07.F_is_state) (aCons (eVar 6) (aCons (eVar 12) aNil))) aNil)))
    (sIf (tOrE (tNotE (tVal (eIsi "bool" (eVar 14)))) (tOrE (tVal (eOp oNe (eVar 14) (eDef 3 (F__law_is_state) (aCons (eVar 7) (aCons (eVar 3) (aCons (eVar 12) aNil)))))) (tVal (eOp oNe (eCall fRepW (aCons (eVar 12) aNil)) (eVar 13))))) (sRet (eC (.bool false))) sNil))
noncomputable def BA : EvS := (sSeq (sSet 11 (eDef 3 (F__law_bent 6) (aCons (eVar 2) (aCons (eVar 9) (aCons (eC (.int 4)) aNil)))))
    (sExpr (sApp (eVar 8) (eIf (tVal (eOp oEq (eDef 2 (Lx.F__law_take) (aCons (eVar 2) (aCons (eC (.int 5)) aNil))) (eC (.int 0)))) (eDef 3 (F__law_bent 6) (aCons (eVar 2) (aCons (eVar 11) (aCons (eC (.int 4)) aNil)))) (eVar 11)))))
noncomputable def EO : EvE := (eIf (tVal (eOp oEq (eOp oIx (eVar 9) (eC (.int 0))) (eC (.str "member")))) (eTup (aCons (eC (.str "note")) (aCons (eOp oIx (eVar 9) (eUn oNeg (eC (.int 1)))) aNil))) (eTup (aCons (eC (.str "member")) (aCons (eC (.int 0)) (aCons (eOp oIx (eVar 9) (eUn oNeg (eC (.int 1)))) aNil)))))
noncomputable def BT : EvS := (sSeq (sSet 9 (eDef 3 (F__law_state) (aCons (eVar 2) (aCons (eVar 7) (aCons (eVar 3) aNil)))))
    (sSeq (sIf (tVal (eOp oNotB (eDef 2 (K07.F_is_state) (aCons (eVar 6) (aCons (eVar 9) aNil))) (eC (.bool true)))) (sRet (eC (.bool false))) sNil)
    (sSeq (sFor (iRange1 (aCons (eC (.int 4)) aNil)) (gN 10) BA)
    (sExpr (sApp (eVar 8) EO)))))
noncomputable def E8 : EvE := (eLst (aCons (eTup (aCons (eC (.str "note")) (aCons (eOp oRepT (eTup (aCons (eTup (aCons (eC (.bool false)) (aCons (eC (.int 0)) aNil))) aNil)) (eCall fLen (aCons (eVar 7) aNil))) aNil))) (aCons (eTup (aCons (eC (.str "member")) (aCons (eC (.int 0)) (aCons (eTup aNil) aNil)))) (aCons (eTup (aCons (eC (.str "note")) (aCons (eTup aNil) aNil))) (aCons (eC .none) (aCons (eC (.str "")) aNil))))))
noncomputable def EL : EvE := (eOp oCat (eVar 8) (eLst (aCons (eDef 3 (F__law_state) (aCons (eVar 2) (aCons (eTup (aCons (eTup (aCons (eC (.str "sum")) (aCons (eOp oRepT (eTup (aCons (eC (.int 1)) aNil)) (eVar 3)) (aCons (eC (.int 4)) aNil)))) aNil)) (aCons (eVar 3) aNil)))) aNil)))
noncomputable def B1 (ns : List Int) : EvS := (sSeq (sSet 2 (eDef 2 (Lx.F__law_hand ns) (aCons (eVar 0) (aCons (eVar 1) aNil))))
    (sSeq (sAsg (eTup (aCons (eOp oAdd (eC (.int 1)) (eDef 2 (Lx.F__law_take) (aCons (eVar 2) (aCons (eC (.int 4)) aNil)))) (aCons (eOp oAdd (eC (.int 1)) (eDef 2 (Lx.F__law_take) (aCons (eVar 2) (aCons (eC (.int 6)) aNil)))) aNil))) (gT 2 (gsC (gN 3) (gsC (gN 4) gs0))))
    (sSeq (sSet 6 (eDef 4 (Lx.F__law_saying 8) (aCons (eVar 2) (aCons (eLc (iRange1 (aCons (eVar 4) aNil)) (gN 5) tTrue (eDef 2 (Lx.F__law_simple) (aCons (eVar 2) (aCons (eVar 3) aNil))) [5]) (aCons (eC (.int 8)) (aCons (ePot [((eC (.str "forms")), (eC (.int 12)))]) aNil))))))
    (sSeq (sSet 7 (eDef 1 (Pg.F_simples) (aCons (eVar 6) aNil)))
    (sSeq (sSet 8 E8)
    (sSeq (sFor (iRange1 (aCons (eC (.int 5)) aNil)) (gN 5) BT)
    (sFor (iSeq EL) (gN 12) BL)))))))
theorem g_law_eq (ns : List Int) : g_law ns = (sSeq (sFor (iRange1 (aCons (eOp oAdd (eC (.int 1)) (eCall fMin2 (aCons (eC (.int 3)) (aCons (eCall (fLenS ns) (aCons (eVar 0) aNil)) aNil)))) aNil)) (gN 1) (B1 ns))
    (sRet (eC (.bool true)))) := rfl
section
variable {av : Nat -> Bool} {M N : Mem} {kk h p s B i o : Nat} {w x : W} {ws : List W} {d t : PyData} {n : Int} {v1 v4 v5 v9 v10 v11 v12 v13 v14 : Option W} {S : Simple} {Ss : List Simple} {y : Say}
/-- one thing looked at: both looks tell the same, and it stays -/
theorem look_b {v2 v8 : Option W} (sd : SaidX y Ss kk) (few : Ss.length <= 6) (tg : Tg av M 31 2402 5000 w d) : ∃ b s, BL [some .scr, v1, v2, some (.d (.int (kk : Int))), v4, v5, some (.d (yD y)), some (.d (.tuple (Ss.map sD))), v8, v9, v10, v11, some w, v13, v14] M = some (.nx [some .scr, v1, v2, some (.d (.int (kk : Int))), v4, v5, some (.d (yD y)), some (.d (.tuple (Ss.map sD))), v8, v9, v10, v11, some w, some (.d (.str s)), some (.d (.bool b))] M) := by
  have r1 := tg.rep (by decide) (by decide)
  have r2 := state_x sd tg.r
  have r3 := is_state_x few sd.goodS sd.pos tg.r
  refine ⟨stateD Ss kk d, d.shown, ?_⟩
  have same : decide (stateD Ss kk d = stateD Ss kk d) = true := decide_eq_true rfl
  generalize stateD Ss kk d = b at r2 r3 same
  generalize d.shown = s at r1
  generalize yD y = yd at *
  generalize PyData.tuple (Ss.map sD) = sds at *
  have kb : kindW M (.d (.bool b)) = some "bool" := rfl
  have ib : isiB "bool" "bool" = true := rfl
  simp [BL, r1, r2, r3, kb, ib]
def EnvS (y : Say) (Ss : List Simple) (kk h s : Nat) (ρ : Ev) : Prop := ∃ v1 v4 v5 v9 v10 v11 v12 v13 v14, ρ = [some .scr, v1, some (.obj h), some (.d (.int (kk : Int))), v4, v5, some (.d (yD y)), some (.d (.tuple (Ss.map sD))), some (.obj s), v9, v10, v11, v12, v13, v14]
theorem looks_b (sd : SaidX y Ss kk) (few : Ss.length <= 6) : ∀ (ws : List W) {deps : List (Nat × MO)} {ρ : Ev}, Deps deps M -> Tgs av M 31 2402 5000 ws -> EnvS y Ss kk h s ρ ->
    ∃ ρ', forL deps (gN 12) BL ws ρ M = some (.nx ρ' M) /\ EnvS y Ss kk h s ρ'
  | [], deps, ρ, hd, tg, hρ => ⟨ρ, by simp [forL, hd], hρ⟩
  | w :: ws, deps, ρ, hd, tg, ⟨v1, v4, v5, v9, v10, v11, v12, v13, v14, hρ⟩ => by
    subst hρ
    obtain ⟨d, td⟩ := tg w List.mem_cons_self
    obtain ⟨b, z, e⟩ := look_b (v1 := v1) (v2 := some (.obj h)) (v4 := v4) (v5 := v5) (v8 := some (.obj s)) (v9 := v9) (v10 := v10) (v11 := v11) (v13 := v13) (v14 := v14) sd few td
    obtain ⟨ρ', e', h'⟩ := looks_b sd few ws hd (fun x hx => tg x (List.mem_cons_of_mem _ hx)) ⟨_, _, _, _, _, _, _, _, _, rfl⟩
    refine ⟨ρ', ?_, h'⟩
    simp only [forL, hd, if_true, gN, Option.bind_some, List.set_cons_succ, List.set_cons_zero]
    rw [e]
    simp only [Option.bind_some]
    exact e'
/-- what is put to the others -/
structure SSt (av : Nat -> Bool) (N h s : Nat) (n : Int) (M : Mem) : Prop where
  hd : HandX M h n
  at' : ∃ ws, M[s]? = some (.lst ws) /\ Tgs av M 31 2402 5000 ws /\ ws.length <= n.toNat + 5
  le : N <= M.length
theorem SSt.put {M' : Mem} {n' : Int} (b : SSt av N.length h s n M) (ah : av h = true) (as : av s = true) (hs : s ≠ h) (ex : Ex1 h M M') (hd' : HandX M' h n') (n0 : 0 <= n) (nn : n + 1 <= n') (tx : Tg av M' 31 2402 5000 x d) (at2 : M'[s]? = some (.lst ws)) :
    SSt av N.length h s n' (M'.set s (.lst (ws ++ [x]))) := by
  obtain ⟨hd, ⟨ws0, at', tg, ln⟩, le⟩ := b
  have at3 := ex.at at' hs
  rw [at2] at at3
  cases at3
  have sl := (List.getElem?_eq_some_iff.mp at2).1
  have agr : ∀ i, av i = false -> ∀ mo, M'[i]? = some mo -> (M'.set s (.lst (ws ++ [x])))[i]? = some mo := fun i ai mo hi => by rw [List.getElem?_set_ne (fun z => by rw [<- z, as] at ai; cases ai)]; exact hi
  refine ⟨hand_at hd' (List.getElem?_set_ne hs), ⟨ws ++ [x], by rw [List.getElem?_set_self sl], ?_, by simp; omega⟩, by rw [List.length_set]; exact Nat.le_trans le ex.1⟩
  refine Tgs.append (fun z hz => ?_) (fun z hz => ?_)
  · obtain ⟨y, ty⟩ := tg z hz
    have := ty.ex ex ah
    exact ⟨y, ⟨this.r.to (Nat.le_refl _) agr, this.i, this.t⟩⟩
  · rw [List.mem_singleton.mp hz]
    exact ⟨d, ⟨tx.r.to (Nat.le_refl _) agr, tx.i, tx.t⟩⟩
/-- one more is put -/
theorem app_s {E : EvE} {Q : Out -> Prop} (b : SSt av N.length h s n M) (ah : av h = true) (as : av s = true) (hs : s ≠ h) (n0 : 0 <= n) (nw : n <= 10000000) {n' : Int} (nn : n + 1 <= n')
    (hE : Ok (E [some .scr, v1, some (.obj h), some (.d (.int (kk : Int))), v4, v5, some (.d (yD y)), some (.d (.tuple (Ss.map sD))), some (.obj s), v9, v10, v11, v12, v13, v14] M) fun q => ∃ x d M', q = (x, M') /\ Ex1 h M M' /\ HandX M' h n' /\ Tg av M' 31 2402 5000 x d)
    (q : ∀ M', SSt av N.length h s n' M' -> M.length <= M'.length -> Q (.nx [some .scr, v1, some (.obj h), some (.d (.int (kk : Int))), v4, v5, some (.d (yD y)), some (.d (.tuple (Ss.map sD))), some (.obj s), v9, v10, v11, v12, v13, v14] M')) : Ok (sExpr (sApp (eVar 8) E) [some .scr, v1, some (.obj h), some (.d (.int (kk : Int))), v4, v5, some (.d (yD y)), some (.d (.tuple (Ss.map sD))), some (.obj s), v9, v10, v11, v12, v13, v14] M) Q := by
  obtain ⟨ws, at', tg, ln⟩ := b.at'
  rw [x_expr, ok_bind, x_app, x_var (show ([some .scr, v1, some (.obj h), some (.d (.int (kk : Int))), v4, v5, some (.d (yD y)), some (.d (.tuple (Ss.map sD))), some (.obj s), v9, v10, v11, v12, v13, v14] : Ev)[8]? = some (some (.obj s)) from rfl)]
  simp only [Option.bind_some, x_lstAt at']
  rw [ok_bind]
  refine Ok.mono hE fun q' ⟨x, d, M', eq, ex, hd', tx⟩ => ?_
  subst eq
  have at2 := ex.at at' hs
  have sm : ws.length < sizeLine := Nat.lt_of_le_of_lt ln (Nat.lt_of_le_of_lt (by omega : n.toNat + 5 <= 10000005) (by decide))
  simp only [x_lstAt at2, Option.bind_some, sm, if_true, ok_some]
  exact q _ (b.put ah as hs ex hd' n0 nn tx at2) (by rw [List.length_set]; exact ex.1)
theorem bend_b (few : Ss.length <= 6) (g : ∀ S ∈ Ss, GoodS S kk) (hk : 0 < kk) (k6 : kk <= 6) (st : StOk Ss kk d) (ah : av h = true) (as : av s = true) (lim : ∀ i, av i = true -> i < N.length) (hs : s ≠ h) (b : SSt av N.length h s n M) (n0 : 0 <= n) (nb : n + 10000 < 2 ^ 40) (nw : n <= 9000000) :
    Ok (BA [some .scr, v1, some (.obj h), some (.d (.int (kk : Int))), v4, v5, some (.d (yD y)), some (.d (.tuple (Ss.map sD))), some (.obj s), some (.d d), v10, v11, v12, v13, v14] M) fun o => ∃ v11 M', o = .nx [some .scr, v1, some (.obj h), some (.d (.int (kk : Int))), v4, v5, some (.d (yD y)), some (.d (.tuple (Ss.map sD))), some (.obj s), some (.d d), v10, v11, v12, v13, v14] M' /\ SSt av N.length h s (n + 800) M' := by
  have pa := st.pl few g hk k6
  have hd := b.hd
  have limM : ∀ i, av i = true -> i < M.length := fun i hi => Nat.lt_of_lt_of_le (lim i hi) b.le
  unfold BA
  rw [ok_seq, x_set, ok_bind]
  simp only [x_def, x_acons, x_anil, x_c, x_var (show ([some .scr, v1, some (.obj h), some (.d (.int (kk : Int))), v4, v5, some (.d (yD y)), some (.d (.tuple (Ss.map sD))), some (.obj s), some (.d d), v10, v11, v12, v13, v14] : Ev)[2]? = some (some (.obj h)) from rfl), x_var (show ([some .scr, v1, some (.obj h), some (.d (.int (kk : Int))), v4, v5, some (.d (yD y)), some (.d (.tuple (Ss.map sD))), some (.obj s), some (.d d), v10, v11, v12, v13, v14] : Ev)[9]? = some (some (.d d)) from rfl), Option.bind_some, List.length_cons, List.length_nil]
  rw [if_pos (by decide)]
  refine bent_t (B := 500) (by decide) (by decide) ah 6 3 4 (.d d) d M n _ (by decide) (by decide) (by decide) (.dat pa.pl pa.s pa.p) (intB_mono (by decide) pa.i) (Nat.le_trans pa.t (by decide)) hd (by omega) limM fun w1 M1 d1 r1 i1 t1 hd1 ex1 => ?_
  rw [ok_some, thenQ_nx]
  simp only [List.set_cons_succ, List.set_cons_zero]
  have lim1 : ∀ i, av i = true -> i < M1.length := fun i hi => Nat.lt_of_lt_of_le (limM i hi) ex1.1
  have t1' : txt d1 <= 2260 := by have := pa.t; omega
  obtain ⟨ws, at', tg, ln⟩ := b.at'
  have b1 : SSt av N.length h s (n + 360) M1 := ⟨hd1, ⟨ws, ex1.at at' hs, tg.ex ex1 ah, by omega⟩, Nat.le_trans b.le ex1.1⟩
  refine app_s (n' := n + 800) b1 ah as hs (by omega) (by omega) (by omega) ?_ fun M' b2 _ => ⟨_, M', rfl, b2⟩
  rw [x_ifE, ok_bind, x_tval, ok_bind, x_op, ok_bind]
  simp only [x_def, x_acons, x_anil, x_c, x_var (show ([some .scr, v1, some (.obj h), some (.d (.int (kk : Int))), v4, v5, some (.d (yD y)), some (.d (.tuple (Ss.map sD))), some (.obj s), some (.d d), v10, some w1, v12, v13, v14] : Ev)[2]? = some (some (.obj h)) from rfl), Option.bind_some, List.length_cons, List.length_nil]
  rw [if_pos (by decide)]
  refine take_x hd1 (by omega) (by decide) (by decide) fun v M2 _ _ hd2 up2 => ?_
  simp only [x_c, Option.bind_some, ok_some, x_eqI, asB, ok_map]
  by_cases z : v = 0
  · simp only [z, decide_true, if_true]
    simp only [x_def, x_acons, x_anil, x_c, x_var (show ([some .scr, v1, some (.obj h), some (.d (.int (kk : Int))), v4, v5, some (.d (yD y)), some (.d (.tuple (Ss.map sD))), some (.obj s), some (.d d), v10, some w1, v12, v13, v14] : Ev)[2]? = some (some (.obj h)) from rfl), x_var (show ([some .scr, v1, some (.obj h), some (.d (.int (kk : Int))), v4, v5, some (.d (yD y)), some (.d (.tuple (Ss.map sD))), some (.obj s), some (.d d), v10, some w1, v12, v13, v14] : Ev)[11]? = some (some w1) from rfl), Option.bind_some, List.length_cons, List.length_nil]
    rw [if_pos (by decide)]
    refine bent_t (B := 1200) (by decide) (by decide) ah 6 17 4 w1 d1 M2 (n + 361) _ (by decide) (by decide) (by decide) (r1.ex (.upd up2) ah) (intB_mono (by decide) i1) (by omega) (hd2.mono (by omega)) (by omega) (fun i hi => by rw [up2.1]; exact lim1 i hi) fun w2 M3 d2 r2 i2 t2 hd3 ex3 => ?_
    exact ⟨w2, d2, M3, rfl, (Ex1.upd up2).trans ex3, hd3.mono (by omega), ⟨r2, i2, by omega⟩⟩
  · simp only [z, decide_false, Bool.false_eq_true, if_false]
    rw [x_var (show ([some .scr, v1, some (.obj h), some (.d (.int (kk : Int))), v4, v5, some (.d (yD y)), some (.d (.tuple (Ss.map sD))), some (.obj s), some (.d d), v10, some w1, v12, v13, v14] : Ev)[11]? = some (some w1) from rfl), ok_some]
    exact ⟨w1, d1, M2, rfl, .upd up2, hd2.mono (by omega), ⟨(r1.ex (.upd up2) ah).up (by omega), intB_mono (by decide) i1, by omega⟩⟩
end
end K06
namespace K06
open PySem PySem.Spec PyProof.Rows L2 Sa Va Gn Pg Lx Tr
open Lw (Upd GoodS cm_left cm_right size_pos size_le DrawnH)
open K51 (Tgs dat_tg lst_tg dic_tg tup_tg add_tup txt_num tup_mkTup cut_to cut_from txts_at intA_sub Pl)
section
variable {av : Nat -> Bool} {M N : Mem} {k kk h p l s L i o : Nat} {w x : W} {ws : List W} {d t : PyData} {ds : List PyData} {n m : Int} {v0 v1 v2 v3 v4 v5 v6 v7 v8 v9 v10 v11 v12 v13 v14 : Option W} {S : Simple} {Ss : List Simple} {y : Say}
theorem Pl_tg {D L : Nat} (p : Pl d D L) (D1 : D <= 31) (L1 : L <= 5000) : Tg av M 31 2402 5000 (.d d) d := ⟨.dat p.pl p.s (Nat.le_trans p.p D1), intB_mono (by decide) p.i, Nat.le_trans p.t L1⟩
theorem pl_str {z : Str} (h : z = "" ∨ z = "member" ∨ z = "note") : Pl (.str z) 0 303 := by
  refine ⟨rfl, rfl, Nat.zero_le _, rfl, ?_⟩
  rcases h with rfl | rfl | rfl <;> (simp only [txt, PyData.shown]; decide +kernel)
theorem pl_int {i : Int} (h : i.natAbs <= 100) : Pl (.int i) 0 303 := ⟨rfl, by simpa [PyData.showable] using log_small (a := i.natAbs) (by omega), Nat.zero_le _, by simp [intB]; omega, Nat.le_trans (txt_int (by omega)) (by decide)⟩
theorem pl_non : Pl .none 0 303 := ⟨rfl, rfl, Nat.zero_le _, rfl, by simp only [txt]; omega⟩
theorem pl_hs (g : ∀ S ∈ Ss, GoodS S kk) (hk : 0 < kk) {b : Bool} (few : Ss.length <= 6) {hs : List PyData} (len : hs.length = Ss.length) (hz : ∀ t ∈ Ss.zip hs, HoldOk t.1 b t.2) : Pl (.tuple hs) 2 303 := Pl.tup (m := 6) (zip_pl hk g len hz) (by omega)
/-- the other word ahead -/
theorem eo_x (few : Ss.length <= 6) (g : ∀ S ∈ Ss, GoodS S kk) (hk : 0 < kk) (st : StOk Ss kk d) : ∃ e, EO [v0, v1, v2, v3, v4, v5, v6, v7, v8, some (.d d), v10, v11, v12, v13, v14] M = some (.d e, M) /\ Pl e 3 1833 := by
  obtain ⟨hs, len, h⟩ := st
  have ne : ¬ (Str.ofString "note" = Str.ofString "member") := by decide +kernel
  rcases h with ⟨i, i0, i1, rfl, hz⟩ | ⟨rfl, hz, _⟩
  · have ph := pl_hs g hk few len hz
    have mk : mkTup [W.d (.str "note"), .d (.tuple hs)] = .d (.tuple [.str "note", .tuple hs]) := rfl
    have a0 : atI [W.d (.str "member"), .d (.int i), .d (.tuple hs)] 0 = some (.d (.str "member")) := rfl
    have a1 : atI [W.d (.str "member"), .d (.int i), .d (.tuple hs)] (-1) = some (.d (.tuple hs)) := rfl
    have sq : ∀ N, seqOf N (W.d (.tuple [.str "member", .int i, .tuple hs])) = some [W.d (.str "member"), .d (.int i), .d (.tuple hs)] := fun _ => rfl
    refine ⟨.tuple [.str "note", .tuple hs], by
      generalize PyData.tuple [.str "member", .int i, .tuple hs] = q at *
      simp [EO, sq, a0, a1, mk, small_size], ?_⟩
    refine Pl.tup (m := 6) (D := 2) (L := 303) (fun d hd => ?_) (by simp)
    simp only [List.mem_cons, List.not_mem_nil, or_false] at hd
    rcases hd with rfl | rfl
    · exact (pl_str (.inr (.inr rfl))).mono (by decide) (Nat.le_refl _)
    · exact ph
  · have ph := pl_hs g hk few len hz
    have mk : mkTup [W.d (.str "member"), .d (.int 0), .d (.tuple hs)] = .d (.tuple [.str "member", .int 0, .tuple hs]) := rfl
    have a0 : atI [W.d (.str "note"), .d (.tuple hs)] 0 = some (.d (.str "note")) := rfl
    have a1 : atI [W.d (.str "note"), .d (.tuple hs)] (-1) = some (.d (.tuple hs)) := rfl
    have sq : ∀ N, seqOf N (W.d (.tuple [.str "note", .tuple hs])) = some [W.d (.str "note"), .d (.tuple hs)] := fun _ => rfl
    refine ⟨.tuple [.str "member", .int 0, .tuple hs], by
      generalize PyData.tuple [.str "note", .tuple hs] = q at *
      simp [EO, sq, a0, a1, mk, ne, small_size], ?_⟩
    refine Pl.tup (m := 6) (D := 2) (L := 303) (fun d hd => ?_) (by simp)
    simp only [List.mem_cons, List.not_mem_nil, or_false] at hd
    rcases hd with rfl | rfl | rfl
    · exact (pl_str (.inr (.inl rfl))).mono (by decide) (Nat.le_refl _)
    · exact (pl_int (by decide)).mono (by decide) (Nat.le_refl _)
    · exact ph
theorem turn_b (sd : SaidX y Ss kk) (few : Ss.length <= 6) (some1 : 0 < Ss.length) (ah : av h = true) (as : av s = true) (lim : ∀ i, av i = true -> i < N.length) (hs : s ≠ h) (b : SSt av N.length h s n M) (n0 : 0 <= n) (nb : n + 100000 < 2 ^ 40) (nw : n <= 1000000) :
    Ok (BT [some .scr, v1, some (.obj h), some (.d (.int (kk : Int))), v4, v5, some (.d (yD y)), some (.d (.tuple (Ss.map sD))), some (.obj s), v9, v10, v11, v12, v13, v14] M) fun o => ∃ v9 v10 v11 M', o = .nx [some .scr, v1, some (.obj h), some (.d (.int (kk : Int))), v4, v5, some (.d (yD y)), some (.d (.tuple (Ss.map sD))), some (.obj s), v9, v10, v11, v12, v13, v14] M' /\ SSt av N.length h s (n + 4000) M' := by
  have g := sd.goodS
  have hk := sd.pos
  have k6 := sd.few
  have hd := b.hd
  unfold BT
  rw [ok_seq, x_set, ok_bind]
  simp only [x_def, x_acons, x_anil, x_c, x_var (show ([some .scr, v1, some (.obj h), some (.d (.int (kk : Int))), v4, v5, some (.d (yD y)), some (.d (.tuple (Ss.map sD))), some (.obj s), v9, v10, v11, v12, v13, v14] : Ev)[2]? = some (some (.obj h)) from rfl), x_var (show ([some .scr, v1, some (.obj h), some (.d (.int (kk : Int))), v4, v5, some (.d (yD y)), some (.d (.tuple (Ss.map sD))), some (.obj s), v9, v10, v11, v12, v13, v14] : Ev)[7]? = some (some (.d (.tuple (Ss.map sD)))) from rfl), x_var (show ([some .scr, v1, some (.obj h), some (.d (.int (kk : Int))), v4, v5, some (.d (yD y)), some (.d (.tuple (Ss.map sD))), some (.obj s), v9, v10, v11, v12, v13, v14] : Ev)[3]? = some (some (.d (.int (kk : Int)))) from rfl), Option.bind_some, List.length_cons, List.length_nil]
  rw [if_pos (by decide)]
  refine state_t few some1 g hk hd (by omega) fun d M1 st hd1 ex1 => ?_
  rw [ok_some, thenQ_nx, ok_seq]
  simp only [List.set_cons_succ, List.set_cons_zero]
  have pa := st.pl few g hk k6
  have ist := state_x (av := av) (M := M1) (k := 3) (w := .d d) sd (.dat pa.pl pa.s pa.p)
  rw [st.state] at ist
  have e1 : (sIf (tVal (eOp oNotB (eDef 2 (K07.F_is_state) (aCons (eVar 6) (aCons (eVar 9) aNil))) (eC (.bool true)))) (sRet (eC (.bool false))) sNil) [some .scr, v1, some (.obj h), some (.d (.int (kk : Int))), v4, v5, some (.d (yD y)), some (.d (.tuple (Ss.map sD))), some (.obj s), some (.d d), v10, v11, v12, v13, v14] M1 = some (.nx [some .scr, v1, some (.obj h), some (.d (.int (kk : Int))), v4, v5, some (.d (yD y)), some (.d (.tuple (Ss.map sD))), some (.obj s), some (.d d), v10, v11, v12, v13, v14] M1) := by
    generalize yD y = yd at *
    generalize PyData.tuple (Ss.map sD) = sds at *
    simp [ist, oNotB]
  rw [e1, ok_some, thenQ_nx, ok_seq]
  obtain ⟨ws, at', tg, ln⟩ := b.at'
  have b1 : SSt av N.length h s (n + 30) M1 := ⟨hd1, ⟨ws, ex1.at at' hs, tg.ex ex1 ah, by omega⟩, Nat.le_trans b.le ex1.1⟩
  have len : ((List.range 4).map fun (k : Nat) => W.d (.int (k : Int))).length = 4 := rfl
  rw [x_for, ok_bind, ok_range1]
  refine Ok.of (x := (([.d (.int 4)], M1) : List W × Mem)) rfl ⟨4, rfl, InR.of (by decide) (by decide), ?_⟩
  rw [show (4 : Int).toNat = 4 from rfl]
  refine Ok.mono (for_ok (deps := []) (fun i ρ M' => ∃ v10 v11, ρ = [some .scr, v1, some (.obj h), some (.d (.int (kk : Int))), v4, v5, some (.d (yD y)), some (.d (.tuple (Ss.map sD))), some (.obj s), some (.d d), v10, v11, v12, v13, v14] /\ SSt av N.length h s (n + 30 + 800 * i) M') (fun ρ M' => ∃ v10 v11, ρ = [some .scr, v1, some (.obj h), some (.d (.int (kk : Int))), v4, v5, some (.d (yD y)), some (.d (.tuple (Ss.map sD))), some (.obj s), some (.d d), v10, v11, v12, v13, v14] /\ SSt av N.length h s (n + 3230) M') (fun _ _ => False) (items0 := (List.range 4).map fun (k : Nat) => .d (.int (k : Int))) (fun _ _ _ _ _ => by simp) (fun ρ M' z => by
    rw [len] at z
    obtain ⟨u, v, e, b⟩ := z
    refine ⟨u, v, e, ?_⟩
    rw [show n + 3230 = n + 30 + 800 * ((4 : Nat) : Int) from by omega]
    exact b) (fun i w ρ M' hw ⟨u10, u11, hρ, b'⟩ => ?_) _ 0 _ M1 rfl (Nat.zero_le _) ⟨_, _, rfl, by simpa using b1⟩) fun o ho => ?_
  · obtain ⟨rfl, hi⟩ := K51.range_get hw
    subst hρ
    simp only [x_gN, ok_some, List.set_cons_succ, List.set_cons_zero]
    refine Ok.mono (bend_b (v10 := some (.d (.int (i : Int)))) few g hk k6 st ah as lim hs b' (by omega) (by omega) (by omega)) fun o ⟨w6, M2, eo, b2⟩ => ?_
    subst eo
    refine ⟨_, _, rfl, ?_⟩
    rw [show n + 30 + 800 * ((i + 1 : Nat) : Int) = n + 30 + 800 * (i : Int) + 800 from by omega]
    exact b2
  · cases o with
    | nx ρ2 M2 =>
      obtain ⟨u10, u11, rfl, b'⟩ := ho
      rw [thenQ_nx]
      obtain ⟨e, ee, pe⟩ := eo_x (M := M2) (v0 := some .scr) (v1 := v1) (v2 := some (.obj h)) (v3 := some (.d (.int (kk : Int)))) (v4 := v4) (v5 := v5) (v6 := some (.d (yD y))) (v7 := some (.d (.tuple (Ss.map sD)))) (v8 := some (.obj s)) (v10 := u10) (v11 := u11) (v12 := v12) (v13 := v13) (v14 := v14) few g hk st
      refine app_s (n' := n + 4000) b' ah as hs (by omega) (by omega) (by omega) ?_ fun M' b2 _ => ⟨_, _, _, M', rfl, b2⟩
      rw [ee, ok_some]
      exact ⟨_, e, M2, rfl, .refl, b'.hd.mono (by omega), Pl_tg pe (by decide) (by decide)⟩
    | rt w2 M2 => exact ho.elim
    | bk ρ2 M2 => exact ho.elim
    | ct ρ2 M2 => exact ho.elim
theorem rep_one {z : PyData} (k : Nat) (h0 : 0 < k) (h1 : k <= 10) : oRepT (.d (.tuple [z])) (.d (.int (k : Int))) M = some (.d (.tuple (List.replicate k z)), M) := by
  have fl : ∀ k : Nat, (List.replicate k [W.d z]).flatten = (List.replicate k z).map W.d := fun k => by
    induction k with
    | zero => rfl
    | succ k ih => rw [List.replicate_succ, List.flatten_cons, ih]; rfl
  by_cases c : k = 1
  · subst c
    rfl
  · have c : ¬ ((k : Int) = 1) := by omega
    have mk : mkTup ((List.replicate k z).map W.d) = .d (.tuple (List.replicate k z)) := mkTup_map
    have d : ([z].map W.d) ≠ [] /\ (2 : Int) <= k /\ (k : Int) <= 1000 /\ ([z].map W.d).length <= 1000 := ⟨by simp, by omega, by omega, by simp⟩
    show (if (k : Int) = 1 then some (W.d (.tuple [z]), M) else if ([z].map W.d) ≠ [] /\ (2 : Int) <= k /\ (k : Int) <= 1000 /\ ([z].map W.d).length <= 1000 then some (mkTup (List.replicate (k : Int).toNat ([z].map W.d)).flatten, M) else none) = _
    rw [if_neg c, if_pos d]
    show some (mkTup (List.replicate (k : Int).toNat [W.d z]).flatten, M) = _
    rw [Int.toNat_natCast, fl, mk]
/-- the first ones -/
def firsts (k : Nat) : List PyData := [.tuple [.str "note", .tuple (List.replicate k (.tuple [.bool false, .int 0]))], .tuple [.str "member", .int 0, .tuple []], .tuple [.str "note", .tuple []], .none, .str ""]
theorem e8_x (few : Ss.length <= 6) (some1 : 0 < Ss.length) : E8 [v0, v1, v2, v3, v4, v5, v6, some (.d (.tuple (Ss.map sD))), v8, v9, v10, v11, v12, v13, v14] M = some (.obj M.length, M ++ [.lst ((firsts Ss.length).map W.d)]) := by
  have mk0 : mkTup [W.d (.bool false), .d (.int 0)] = .d (.tuple [.bool false, .int 0]) := rfl
  have mk1 : mkTup [W.d (.tuple [.bool false, .int 0])] = .d (.tuple [.tuple [.bool false, .int 0]]) := rfl
  have rp := rep_one (M := M) (z := .tuple [.bool false, .int 0]) Ss.length some1 (by omega)
  have mk2 : mkTup [W.d (.str "note"), .d (.tuple (List.replicate Ss.length (.tuple [.bool false, .int 0])))] = .d (.tuple [.str "note", .tuple (List.replicate Ss.length (.tuple [.bool false, .int 0]))]) := rfl
  have mk3 : mkTup [W.d (.str "member"), .d (.int 0), .d (.tuple [])] = .d (.tuple [.str "member", .int 0, .tuple []]) := rfl
  have mk4 : mkTup [W.d (.str "note"), .d (.tuple [])] = .d (.tuple [.str "note", .tuple []]) := rfl
  have sq : ∀ N, seqOf N (W.d (.tuple (Ss.map sD))) = some ((Ss.map sD).map W.d) := fun _ => rfl
  have ll : ((Ss.map sD).map W.d).length = Ss.length := by simp
  generalize (Ss.map sD).map W.d = sws at *
  generalize PyData.tuple (Ss.map sD) = sds at *
  simp [E8, mk0, mk1, rp, mk2, mk3, mk4, sq, ll, small_size, firsts]
theorem firsts_tg {q : Nat} (few : q <= 6) : Tgs av M 31 2402 5000 ((firsts q).map W.d) := by
  have p0 : Pl (.tuple []) 2 303 := ⟨rfl, rfl, by simp [PyData.depth, PyData.depthAll], rfl, by simp only [txt, txts]; omega⟩
  have p1 : Pl (.tuple [.bool false, .int 0]) 1 48 := by
    refine K51.Pl.mono (Pl.tup (m := 3) (D := 0) (L := 13) (fun d hd => ?_) (by simp)) (by decide) (by decide)
    simp only [List.mem_cons, List.not_mem_nil, or_false] at hd
    rcases hd with rfl | rfl
    · exact ⟨rfl, rfl, Nat.le_refl _, rfl, txt_bl _⟩
    · exact ⟨rfl, by simp [PyData.showable], Nat.le_refl _, by simp [intB], txt_int (by decide)⟩
  have p2 : Pl (.tuple (List.replicate q (.tuple [.bool false, .int 0]))) 2 303 := Pl.tup (m := 6) (D := 1) (L := 48) (fun d hd => by rw [List.eq_of_mem_replicate hd]; exact p1) (by simpa using few)
  intro x hx
  obtain ⟨d, hd, rfl⟩ := List.mem_map.mp hx
  refine ⟨d, ?_⟩
  simp only [firsts, List.mem_cons, List.not_mem_nil, or_false] at hd
  rcases hd with rfl | rfl | rfl | rfl | rfl
  · refine Pl_tg (Pl.tup (m := 6) (D := 2) (L := 303) (fun d hd => ?_) (by simp)) (by decide) (by decide)
    simp only [List.mem_cons, List.not_mem_nil, or_false] at hd
    rcases hd with rfl | rfl
    · exact (pl_str (.inr (.inr rfl))).mono (by decide) (Nat.le_refl _)
    · exact p2
  · refine Pl_tg (Pl.tup (m := 6) (D := 2) (L := 303) (fun d hd => ?_) (by simp)) (by decide) (by decide)
    simp only [List.mem_cons, List.not_mem_nil, or_false] at hd
    rcases hd with rfl | rfl | rfl
    · exact (pl_str (.inr (.inl rfl))).mono (by decide) (Nat.le_refl _)
    · exact (pl_int (by decide)).mono (by decide) (Nat.le_refl _)
    · exact p0
  · refine Pl_tg (Pl.tup (m := 6) (D := 2) (L := 303) (fun d hd => ?_) (by simp)) (by decide) (by decide)
    simp only [List.mem_cons, List.not_mem_nil, or_false] at hd
    rcases hd with rfl | rfl
    · exact (pl_str (.inr (.inr rfl))).mono (by decide) (Nat.le_refl _)
    · exact p0
  · exact Pl_tg pl_non (by decide) (by decide)
  · exact Pl_tg (pl_str (.inl rfl)) (by decide) (by decide)
theorem good_four (hk : kk <= 6) : GoodS (.sum (List.replicate kk 1) 4) kk := ⟨by simp [Simple.ws], fun w hw => by simp only [Simple.ws] at hw; rw [List.eq_of_mem_replicate hw]; decide, fun ws c e => (by cases e; decide), fun ws r m e => (by cases e), hk⟩
/-- the last loop -/
theorem last_b (sd : SaidX y Ss kk) (few : Ss.length <= 6) (ah : av h = true) (lim : ∀ i, av i = true -> i < N.length) (hs : s ≠ h) (b : SSt av N.length h s n M) (n0 : 0 <= n) (nb : n + 100 < 2 ^ 40) (nw : n <= 1000000) :
    Ok (sFor (iSeq EL) (gN 12) BL [some .scr, v1, some (.obj h), some (.d (.int (kk : Int))), v4, v5, some (.d (yD y)), some (.d (.tuple (Ss.map sD))), some (.obj s), v9, v10, v11, v12, v13, v14] M) fun o => ∃ ρ' M', o = .nx ρ' M' /\ EnvS y Ss kk h s ρ' := by
  have hk := sd.pos
  have k6 := sd.few
  have hd := b.hd
  obtain ⟨ws, at', tg, ln⟩ := b.at'
  have v2' : ([some .scr, v1, some (.obj h), some (.d (.int (kk : Int))), v4, v5, some (.d (yD y)), some (.d (.tuple (Ss.map sD))), some (.obj s), v9, v10, v11, v12, v13, v14] : Ev)[2]? = some (some (.obj h)) := rfl
  have v3' : ([some .scr, v1, some (.obj h), some (.d (.int (kk : Int))), v4, v5, some (.d (yD y)), some (.d (.tuple (Ss.map sD))), some (.obj s), v9, v10, v11, v12, v13, v14] : Ev)[3]? = some (some (.d (.int (kk : Int)))) := rfl
  have v8' : ([some .scr, v1, some (.obj h), some (.d (.int (kk : Int))), v4, v5, some (.d (yD y)), some (.d (.tuple (Ss.map sD))), some (.obj s), v9, v10, v11, v12, v13, v14] : Ev)[8]? = some (some (.obj s)) := rfl
  have rp := rep_one (M := M) (z := .int 1) kk hk (by omega)
  have mk1 : mkTup [W.d (.int 1)] = .d (.tuple [.int 1]) := rfl
  have mk2 : mkTup [W.d (.str "sum"), .d (.tuple (List.replicate kk (.int 1))), .d (.int 4)] = .d (sD (.sum (List.replicate kk 1) 4)) := by
    simp only [sD, wsD, List.map_replicate]
    rfl
  have mk3 : mkTup [W.d (sD (.sum (List.replicate kk 1) 4))] = .d (.tuple ([Simple.sum (List.replicate kk 1) 4].map sD)) := mkTup_map (ds := [sD (.sum (List.replicate kk 1) 4)])
  have it : Ok (iSeq EL [some .scr, v1, some (.obj h), some (.d (.int (kk : Int))), v4, v5, some (.d (yD y)), some (.d (.tuple (Ss.map sD))), some (.obj s), v9, v10, v11, v12, v13, v14] M) fun p => ∃ ws' l M', p = ((ws', [(l, .lst ws')]), M') /\ M'[l]? = some (.lst ws') /\ Tgs av M' 31 2402 5000 ws' := by
    rw [x_iseqO, ok_bind]
    unfold EL
    rw [x_op, x_var v8']
    simp only [Option.bind_some]
    rw [ok_bind, x_lst, ok_bind, x_acons, ok_bind, x_def, ok_bind]
    simp only [x_acons, x_anil, x_tup, x_c, x_op, x_var v2', x_var v3', Option.bind_some, mk1, List.length_cons, List.length_nil]
    rw [if_pos (small_size (by simp))]
    simp only [Option.bind_some, rp, List.length_cons, List.length_nil]
    rw [if_pos (small_size (by simp))]
    simp only [Option.bind_some, mk2, List.length_cons, List.length_nil]
    rw [if_pos (small_size (by simp))]
    simp only [Option.bind_some, mk3, ok_some, List.length_cons, List.length_nil]
    rw [if_pos (by decide)]
    refine state_t (Ss := [.sum (List.replicate kk 1) 4]) (by simp) (by simp) (fun S hS => by rw [List.mem_singleton.mp hS]; exact good_four k6) hk hd (by omega) fun d M1 st hd1 ex1 => ?_
    have pd := st.pl (by simp) (fun S hS => by rw [List.mem_singleton.mp hS]; exact good_four k6) hk k6
    simp only [ok_some, List.length_cons, List.length_nil]
    rw [if_pos (small_size (by simp)), ok_some]
    have g1 := ex1.at at' hs
    have cat : oCat (.obj s) (.obj M1.length) (M1 ++ [.lst [.d d]]) = some (.obj (M1 ++ [MO.lst [.d d]]).length, M1 ++ [.lst [.d d]] ++ [.lst (ws ++ [.d d])]) := by
      simp only [oCat, x_lstAt (get_old g1), x_lstAt List.getElem?_concat_length, Option.bind_some]
      rw [if_pos (Nat.le_trans (by simp; omega : ws.length + [W.d d].length <= 1000010) (by decide))]
    rw [cat, ok_some]
    have g2 : (M1 ++ [MO.lst [.d d]] ++ [MO.lst (ws ++ [.d d])])[(M1 ++ [MO.lst [.d d]]).length]? = some (.lst (ws ++ [.d d])) := List.getElem?_concat_length
    simp only [x_lstAt g2, Option.bind_some, ok_some]
    refine ⟨_, _, _, rfl, g2, Tgs.append (tg.ex ex1 ah).app.app fun z hz => ?_⟩
    rw [List.mem_singleton.mp hz]
    exact ⟨d, Pl_tg pd (by decide) (by decide)⟩
  rw [x_for, ok_bind]
  refine Ok.mono it fun p ⟨ws', l, M', ep, g', tg'⟩ => ?_
  subst ep
  obtain ⟨ρ', e, h'⟩ := looks_b (av := av) (M := M') (h := h) (s := s) sd few ws' (deps := [(l, .lst ws')]) (ρ := [some .scr, v1, some (.obj h), some (.d (.int (kk : Int))), v4, v5, some (.d (yD y)), some (.d (.tuple (Ss.map sD))), some (.obj s), v9, v10, v11, v12, v13, v14]) (Deps.one.mpr g') tg' ⟨_, _, _, _, _, _, _, _, _, rfl⟩
  exact Ok.of e ⟨_, _, rfl, h'⟩
end
end K06
namespace K06
open PySem PySem.Spec PyProof.Rows L2 Sa Va Gn Pg Lx Tr
open Lw (Upd GoodS cm_left cm_right size_pos size_le DrawnH for_range)
open K51 (Tgs)
section
variable {M : Mem} {kk i l j h w : Nat} {S : Simple} {z : Int} {y : Say} {Ss : List Simple}
theorem b1_ok {ns : List Int} {ρ : Ev} {M : Mem} {j : Nat} {Q : Out -> Prop} (fr : ∃ vs : List (Option W), vs.length = 13 /\ ρ = some .scr :: some (.d (.int (j : Int))) :: vs) (hj : j <= 4)
    (k : ∀ ρ' M', (∃ vs : List (Option W), vs.length = 14 /\ ρ' = some .scr :: vs) -> Q (.nx ρ' M')) : Ok (B1 ns ρ M) Q := by
  obtain ⟨vs, len, rfl⟩ := fr
  match vs, len with
  | [v2, v3, v4, v5, v6, v7, v8, v9, v10, v11, v12, v13, v14], _ =>
  unfold B1
  rw [ok_seq]
  simp
  refine hand_x (by omega) (by omega) fun a b a0 b0 b1 => ?_
  have hd0 : HandX (M ++ [MO.lst [W.d (.int a), W.d (.int b), W.d (.int 0)]]) M.length 0 := ⟨a, b, 0, by simp, a0, b0, b1, by decide, by decide⟩
  simp
  rw [thenQ_nx, ok_seq]
  simp
  generalize M ++ [MO.lst [W.d (.int a), W.d (.int b), W.d (.int 0)]] = M0 at hd0
  generalize M.length = h at hd0 ⊢
  refine take_x hd0 (by decide) (by decide) (by decide) fun s M1 s0 s1 hd1 up1 => ?_
  simp
  refine take_x hd1 (by decide) (by decide) (by decide) fun m M2 m0 m1 hd2 up2 => ?_
  obtain ⟨kk, hkk⟩ : ∃ kk : Nat, 1 + s = kk := ⟨(1 + s).toNat, by omega⟩
  obtain ⟨mm, hmm⟩ : ∃ mm : Nat, 1 + m = mm := ⟨(1 + m).toNat, by omega⟩
  have kp : 0 < kk := by omega
  have k6 : kk <= 6 := by omega
  simp [hkk, hmm, small_size, tupOf, mkTup, datas]
  rw [thenQ_nx, ok_seq]
  simp
  refine ⟨.of (by omega) (by omega), draws_of (x_simple kp k6) (by decide) (fun w M => by simp) hd2 (by omega) (by omega) fun ws M3 wl wp hd3 up3 => ?_⟩
  obtain ⟨Ss, rfl, gS⟩ := pre_of (f := fun S : Simple => W.d (sD S)) wp
  have sl : Ss.length = mm := by simpa using wl
  have l3 : M2.length = M3.length := up3.1.symm
  simp [l3]
  have hl4 : (M3 ++ [MO.lst (Ss.map fun S => W.d (sD S))])[M3.length]? = some (.lst (Ss.map fun S => .d (sD S))) := by simp
  have hd4 := hd3.app (J := [MO.lst (Ss.map fun S => W.d (sD S))])
  have lh : M3.length ≠ h := by have := hd3.lt; omega
  have ep : ∀ ρ M, ePot [((eC (.str "forms")), (eC (.int 12)))] ρ M = some (.obj M.length, M ++ [.pot [(.inr "forms", .int 12)]]) := fun ρ M => by
    simp [ePot, aPairs, pairsW, keyW, potAt, potOf, potPut]
  have lM4 : M3.length + 1 = (M3 ++ [MO.lst (Ss.map fun S => W.d (sD S))]).length := by simp
  simp [ep]
  have e4 : M3 ++ [MO.lst (Ss.map fun S => W.d (sD S)), MO.pot [(Sum.inr (Str.ofString "forms"), PyData.int 12)]] = (M3 ++ [MO.lst (Ss.map fun S => W.d (sD S))]) ++ [MO.pot [(Sum.inr (Str.ofString "forms"), PyData.int 12)]] := by simp
  rw [e4, lM4]
  generalize M3 ++ [MO.lst (Ss.map fun S => W.d (sD S))] = M4 at hl4 hd4
  generalize M3.length = l at hl4 lh ⊢
  have lt4 : l < M4.length := (List.getElem?_eq_some_iff.mp hl4).1
  have ht4 := hd4.lt
  refine saying_x (Ss := Ss) (by omega) (by omega) 8 8 _ h l M4.length _ _ (by decide) (by decide) (by decide) (get_old hl4) ⟨12, by simp⟩ hd4.app lh (by omega) (by omega) (by omega) fun y M5 fy hd5 pt5 up5 => ?_
  simp
  rw [thenQ_nx, ok_seq]
  have rl : (rowOf y.leaves).length <= 6 := by
    have := Lw.nodup_le (rowOf_nodup y.leaves) fun T hT => fy.sub T ((rowOf_mem _ T).mp hT)
    omega
  have sd : SaidX y (rowOf y.leaves) kk := ⟨rfl, Nat.le_trans fy.deep (by decide), Nat.le_trans fy.many (by decide), by omega, fun S hS => gS S (fy.sub S hS), kp, k6⟩
  have some1 : 0 < (rowOf y.leaves).length := by
    cases hl : y.leaves with
    | nil => have := y.leaves_pos; rw [hl] at this; simp at this
    | cons T Ts =>
      have : T ∈ rowOf (T :: Ts) := (rowOf_mem _ T).mpr List.mem_cons_self
      exact List.length_pos_of_mem this
  have si := fun M => sd.simples (M := M)
  generalize rowOf y.leaves = Rs at *
  simp [si]
  rw [thenQ_nx, ok_seq]
  have e8 := e8_x (M := M5) (Ss := Rs) (v0 := some .scr) (v1 := some (.d (.int (j : Int)))) (v2 := some (.obj h)) (v3 := some (.d (.int (kk : Int)))) (v4 := some (.d (.int (mm : Int)))) (v5 := v5) (v6 := some (.d (yD y))) (v8 := v8) (v9 := v9) (v10 := v10) (v11 := v11) (v12 := v12) (v13 := v13) (v14 := v14) rl some1
  rw [x_set]
  simp only [e8, Option.bind_some, ok_some, List.set_cons_succ, List.set_cons_zero]
  rw [thenQ_nx, ok_seq]
  have hd6 := hd5.app (J := [MO.lst ((firsts Rs.length).map W.d)])
  have g6 : (M5 ++ [MO.lst ((firsts Rs.length).map W.d)])[M5.length]? = some (.lst ((firsts Rs.length).map W.d)) := by simp
  have hs : M5.length ≠ h := by have := hd5.lt; omega
  generalize hM6 : M5 ++ [MO.lst ((firsts Rs.length).map W.d)] = M6 at hd6 g6
  have tl6 : M5.length < M6.length := by rw [<- hM6]; simp
  generalize M5.length = s at g6 hs tl6 ⊢
  have hl6 := hd6.lt
  have lim : ∀ i, (i == h || i == s) = true -> i < M6.length := fun i hi => by
    simp only [Bool.or_eq_true, beq_iff_eq] at hi
    rcases hi with rfl | rfl <;> assumption
  have b0 : SSt (fun i => i == h || i == s) M6.length h s 20000 M6 := ⟨hd6.mono (by omega), ⟨_, g6, firsts_tg rl, by simp [firsts]⟩, Nat.le_refl _⟩
  obtain ⟨av, hav⟩ : ∃ av : Nat -> Bool, av = fun i => i == h || i == s := ⟨_, rfl⟩
  have lim : ∀ i, av i = true -> i < M6.length := fun i hi => lim i (by rw [hav] at hi; exact hi)
  rw [<- hav] at b0
  have ah : av h = true := by rw [hav]; simp
  have as : av s = true := by rw [hav]; simp
  clear hav
  have len5 : ((List.range 5).map fun (k : Nat) => W.d (.int (k : Int))).length = 5 := rfl
  rw [x_for, ok_bind, ok_range1]
  refine Ok.of (x := (([.d (.int 5)], M6) : List W × Mem)) rfl ⟨5, rfl, InR.of (by decide) (by decide), ?_⟩
  rw [show (5 : Int).toNat = 5 from rfl]
  refine Ok.mono (for_ok (deps := []) (fun i ρ M' => ∃ v5 v9 v10 v11 v12 v13 v14, ρ = [some .scr, some (.d (.int (j : Int))), some (.obj h), some (.d (.int (kk : Int))), some (.d (.int (mm : Int))), v5, some (.d (yD y)), some (.d (.tuple (Rs.map sD))), some (.obj s), v9, v10, v11, v12, v13, v14] /\ SSt av M6.length h s (20000 + 4000 * i) M') (fun ρ M' => ∃ v5 v9 v10 v11 v12 v13 v14, ρ = [some .scr, some (.d (.int (j : Int))), some (.obj h), some (.d (.int (kk : Int))), some (.d (.int (mm : Int))), v5, some (.d (yD y)), some (.d (.tuple (Rs.map sD))), some (.obj s), v9, v10, v11, v12, v13, v14] /\ SSt av M6.length h s 40000 M') (fun _ _ => False) (items0 := (List.range 5).map fun (k : Nat) => .d (.int (k : Int))) (fun _ _ _ _ _ => by simp) (fun ρ M' z => by rw [len5] at z; exact z) (fun i w ρ M' hw ⟨u5, u9, u10, u11, u12, u13, u14, hρ, b'⟩ => ?_) _ 0 _ M6 rfl (Nat.zero_le _) ⟨_, _, _, _, _, _, _, rfl, by simpa using b0⟩) fun o ho => ?_
  · obtain ⟨rfl, hi⟩ := K51.range_get hw
    subst hρ
    simp only [x_gN, ok_some, List.set_cons_succ, List.set_cons_zero]
    refine Ok.mono (turn_b (N := M6) (v5 := some (.d (.int (i : Int)))) sd rl some1 ah as lim hs b' (by omega) (by omega) (by omega)) fun o ⟨w9, w10, w11, M2, eo, b2⟩ => ?_
    subst eo
    refine ⟨_, _, _, _, _, _, _, rfl, ?_⟩
    rw [show (20000 : Int) + 4000 * ((i + 1 : Nat) : Int) = 20000 + 4000 * (i : Int) + 4000 from by omega]
    exact b2
  · cases o with
    | nx ρ2 M2 =>
      obtain ⟨u5, u9, u10, u11, u12, u13, u14, rfl, b'⟩ := ho
      rw [thenQ_nx]
      refine Ok.mono (last_b (N := M6) sd rl ah lim hs b' (by decide) (by decide) (by decide)) fun o ⟨ρ', M', eo, v1, v4, v5, v9, v10, v11, v12, v13, v14, e⟩ => ?_
      subst eo
      subst e
      exact k _ _ ⟨_, rfl, rfl⟩
    | rt w2 M2 => exact ho.elim
    | bk ρ2 M2 => exact ho.elim
    | ct ρ2 M2 => exact ho.elim
theorem law_true (ns : List Int) : ∃ M', F_law ns [.scr] [] = some (.d (.bool true), M') := by
  suffices h : Ok (F_law ns [.scr] []) fun p => p.1 = .d (.bool true) by
    obtain ⟨⟨w, M'⟩, e, rfl⟩ := h
    exact ⟨M', e⟩
  have cnt : ∃ m : Nat, 1 + (if (ns.length : Int) < 3 then (ns.length : Int) else 3) = (m : Int) /\ m <= 4 := by
    refine ⟨(1 + (if (ns.length : Int) < 3 then (ns.length : Int) else 3)).toNat, ?_, ?_⟩ <;> (split <;> omega)
  obtain ⟨m, hm, m3⟩ := cnt
  simp only [F_law, nf, fnV, g_law_eq, ok_map, ok_bind]
  simp [hm]
  refine ⟨InR.of (by omega) (by omega), ?_⟩
  generalize hB : B1 ns = B at *
  refine for_range (fun i ρ M' => ∃ vs : List (Option W), vs.length = 14 /\ ρ = some .scr :: vs) ⟨[none, none, none, none, none, none, none, none, none, none, none, none, none, none], rfl, rfl⟩ (fun i ρ M' hi ⟨vs, len, er⟩ => ?_) fun ρ M' ⟨vs, len, er⟩ => ?_
  · subst er hB
    match vs, len with
    | v1 :: vs, len => exact b1_ok ⟨vs, by simpa using len, rfl⟩ (by omega) fun ρ2 M2 h => h
  · subst er
    have nm := norm_d (M := []) (M1 := []) (J := M') (w := .d (.bool true)) rfl .refl
    simp only [List.nil_append] at nm
    simp [nm]
end
end K06
namespace K06
open PySem PySem.Spec PyProof.Rows L2 Sa Va
def topS (i : Nat) : Stmt := PySem.Challenge.pw_strangersay_k06_states_of_anything.main.body.getD i (.Pass ⟨0, 0, 0, 0⟩)
structure Bn (mg : Str -> Option Value) : Prop where
  n_abs : mg "abs" = none
  n_all : mg "all" = none
  n_bool : mg "bool" = none
  n_int : mg "int" = none
  n_isinstance : mg "isinstance" = none
  n_len : mg "len" = none
  n_list : mg "list" = none
  n_max : mg "max" = none
  n_min : mg "min" = none
  n_range : mg "range" = none
  n_repr : mg "repr" = none
  n_set : mg "set" = none
  n_sorted : mg "sorted" = none
  n_str : mg "str" = none
  n_tuple : mg "tuple" = none
  n_zip : mg "zip" = none
section
variable {P : Program} {w : World} {mg : Str -> Option Value} {base : Heap} {C : Ck}
abbrev s__law_hand : Stmt := topS 22
abbrev N__law_hand : List Str := [("_law_script" : Str), ("_law_k" : Str), ("_law_cell" : Str), ("_law_own" : Str)]
theorem sc__law_hand : FnScope N__law_hand ["_law_script", "_law_k"] (defScope s__law_hand) := ⟨rfl, rfl, rfl, by decide +kernel, rfl, by decide +kernel, by decide +kernel⟩
theorem ok__law_hand (hw : C.w = w) (T : Bn mg) (S : Stands C.K mg "_law_hand" s__law_hand ["_law_script", "_law_k"]) : Df P w C.K mg base 1 "_law_hand" ["_law_script", "_law_k"] (spV C 2 (Lx.F__law_hand C.ns)) := by
  have sc := sc__law_hand
  subst hw
  exact Dv.nf (Dv.of (k := 0) (g := Lx.g__law_hand C.ns) S sc__law_hand rfl fun f cdv A outer s H E hr hf =>
      (qs_cons (q_set (i := 2) sc.nd rfl (Or.inl rfl) (q_ifE (qt_cmp op_lt vo_lt (qv 1) (q_callB call_len_seq vc_lenS rfl T.n_len PySem.boot_len (qa_cons (qv 0) qa_nil)) (nomark _)) (q_ixS rfl (qv 0) (qv 1) (fun _ _ => rfl)) q_int))
      (qs_cons (q_set (i := 3) sc.nd rfl (Or.inl rfl) (q_op op_mul vo_mul (q_op op_mod vo_mod (q_callB call_abs vc_abs rfl T.n_abs (by decide +kernel) (qa_cons (qv 2) qa_nil)) (q_op op_mulW vo_mulW (q_op op_mulW vo_mulW (q_op op_mulW vo_mulW (q_op op_pow vo_pow q_int q_int) (q_op op_pow vo_pow q_int q_int)) (q_op op_pow vo_pow q_int q_int)) (q_op op_pow vo_pow q_int q_int))) (q_callTy call_int1 vc_int rfl T.n_int (by decide +kernel) (qa_cons (q_cmp op_ge vo_ge (q_callB call_abs vc_abs rfl T.n_abs (by decide +kernel) (qa_cons (qv 2) qa_nil)) (q_op op_pow vo_pow q_int q_int) (nomark _)) qa_nil))))
      (qs_one (q_ret (q_lst (qa_cons (qv 3) (qa_cons (q_op op_add vo_add (q_op op_add vo_add (q_op op_mod vo_mod (qv 2) q_int) (q_op op_mul vo_mul q_int (qv 1))) q_int) (qa_cons q_int qa_nil)))))))))
abbrev s__law_take : Stmt := topS 23
abbrev N__law_take : List Str := [("_law_hand_here" : Str), ("_law_many" : Str), ("_law_digit" : Str), ("_law_primes" : Str), ("_law_prime" : Str), ("_law_drawn" : Str)]
theorem sc__law_take : FnScope N__law_take ["_law_hand_here", "_law_many"] (defScope s__law_take) := ⟨rfl, rfl, rfl, by decide +kernel, rfl, by decide +kernel, by decide +kernel⟩
theorem ok__law_take (hw : C.w = w) (T : Bn mg) (S : Stands C.K mg "_law_take" s__law_take ["_law_hand_here", "_law_many"]) : Df P w C.K mg base 1 "_law_take" ["_law_hand_here", "_law_many"] (spV C 2 (Lx.F__law_take)) := by
  have sc := sc__law_take
  subst hw
  exact Dv.nf (Dv.of (k := 0) (g := Lx.g__law_take) S sc__law_take rfl fun f cdv A outer s H E hr hf =>
      (qs_cons (q_if (qt_cmp op_gt vo_gt (q_ix rfl (qv 0) q_int (fun _ _ => rfl)) q_int (nomark _)) (qs_cons (q_set (i := 2) sc.nd rfl (Or.inl rfl) (q_op op_mod vo_mod (q_ix rfl (qv 0) q_int (fun _ _ => rfl)) (qv 1)))
      (qs_cons (q_put (q_op op_fdivW vo_div (q_ix rfl (qv 0) q_int (fun _ _ => rfl)) (qv 1)) (qv 0) q_int (pg_sub (qv 0) q_int set_list))
      (qs_one (q_ret (qv 2))))) qs_nil)
      (qs_cons (q_put (q_op op_add vo_add (q_ix rfl (qv 0) q_int (fun _ _ => rfl)) q_int) (qv 0) q_int (pg_sub (qv 0) q_int set_list))
      (qs_cons (q_set (i := 3) sc.nd rfl (Or.inl rfl) (q_lst (qa_cons q_int (qa_cons q_int (qa_cons q_int (qa_cons q_int (qa_cons q_int (qa_cons q_int (qa_cons q_int (qa_cons q_int qa_nil))))))))))
      (qs_cons (q_set (i := 4) sc.nd rfl (Or.inl rfl) (q_ix rfl (qv 3) (q_op op_mod vo_mod (q_ix rfl (qv 0) q_int (fun _ _ => rfl)) q_int) (fun _ _ => rfl)))
      (qs_cons (q_set (i := 5) sc.nd rfl (Or.inl rfl) (q_op op_mod vo_mod (q_op op_pow vo_pow (q_op op_add vo_add (q_ix rfl (qv 0) q_int (fun _ _ => rfl)) (q_op op_mul vo_mul q_int (q_ix rfl (qv 0) q_int (fun _ _ => rfl)))) q_int) (qv 4)))
      (qs_one (q_ret (q_op op_mod vo_mod (q_op op_fdivW vo_div (q_op op_mod vo_mod (q_op op_mul vo_mul (qv 5) (q_op op_add vo_add (q_op op_mod vo_mod (qv 5) q_int) (q_ix rfl (qv 0) q_int (fun _ _ => rfl)))) (qv 4)) q_int) (qv 1))))))))))
abbrev s__law_saying : Stmt := topS 26
abbrev N__law_saying : List Str := [("_law_hand_here" : Str), ("_law_pool" : Str), ("_law_deep" : Str), ("_law_pot" : Str), ("_law_way" : Str), ("_law_at" : Str), ("_law_inner" : Str)]
theorem sc__law_saying : FnScope N__law_saying ["_law_hand_here", "_law_pool", "_law_deep", "_law_pot"] (defScope s__law_saying) := ⟨rfl, rfl, rfl, by decide +kernel, rfl, by decide +kernel, by decide +kernel⟩
theorem ok__law_saying (hw : C.w = w) (T : Bn mg) (S : Stands C.K mg "_law_saying" s__law_saying ["_law_hand_here", "_law_pool", "_law_deep", "_law_pot"]) (d__law_take : Df P w C.K mg base 1 "_law_take" ["_law_hand_here", "_law_many"] (spV C 2 (Lx.F__law_take))) : ∀ k, Df P w C.K mg base (2 + k) "_law_saying" ["_law_hand_here", "_law_pool", "_law_deep", "_law_pot"] (spV C 4 (Lx.F__law_saying k))
  | 0 => Dv.never S
  | k + 1 => by
    have ih := ok__law_saying hw T S d__law_take k
    have sc := sc__law_saying
    subst hw
    exact Dv.nf (Dv.of (k := 2 + k) (g := Lx.g__law_saying (Lx.F__law_saying k)) S sc__law_saying rfl fun f cdv A outer s H E hr hf =>
      (qs_cons (q_par (i := 4) (j := 5) rfl sc.nd rfl rfl (by decide) rfl rfl (qa_cons (q_df d__law_take (hr.mono (by omega)) hf rfl (qa_cons (qv 0) (qa_cons q_int qa_nil))) (qa_cons (q_df d__law_take (hr.mono (by omega)) hf rfl (qa_cons (qv 0) (qa_cons (q_callB call_len_seq vc_len rfl T.n_len PySem.boot_len (qa_cons (qv 1) qa_nil)) qa_nil))) qa_nil)) rfl)
      (qs_cons (q_putP hr.units (q_op op_sub vo_sub (q_ixP hr.units (qv 3) q_str (fun _ _ => rfl)) q_int) (qv 3) q_str)
      (qs_cons (q_if (PW.pt (qw_or (qt_cmp op_gt vo_gt (qv 4) q_int (nomark _)) (qw_or (qt_cmp op_lt vo_lt (qv 2) q_int (nomark _)) (qw_or1 (qt_cmp op_lt vo_lt (q_ixP hr.units (qv 3) q_str (fun _ _ => rfl)) q_int (nomark _)))))) (qs_one (q_ret (q_ix rfl (qv 1) (qv 5) (fun _ _ => rfl)))) qs_nil)
      (qs_cons (q_set (i := 6) sc.nd rfl (Or.inl rfl) (q_df ih (hr.mono (by omega)) hf rfl (qa_cons (qv 0) (qa_cons (qv 1) (qa_cons (q_op op_sub vo_sub (qv 2) q_int) (qa_cons (qv 3) qa_nil))))))
      (qs_cons (q_if (qt_cmp (op_eq.or (op_eqD hr.units)) vo_eq (qv 4) q_int (nomark _)) (qs_one (q_ret (q_tup (qa_cons q_str (qa_cons (qv 6) qa_nil))))) qs_nil)
      (qs_one (q_ret (q_tup (qa_cons (q_ix rfl (q_lst (qa_cons q_str (qa_cons q_str (qa_cons q_str qa_nil)))) (q_op op_sub vo_sub (qv 4) q_int) (fun _ _ => rfl)) (qa_cons (qv 6) (qa_cons (q_df ih (hr.mono (by omega)) hf rfl (qa_cons (qv 0) (qa_cons (qv 1) (qa_cons (q_op op_sub vo_sub (qv 2) q_int) (qa_cons (qv 3) qa_nil))))) qa_nil))))))))))))
abbrev s_is_tuple_of : Stmt := topS 3
abbrev N_is_tuple_of : List Str := [("thing" : Str), ("many" : Str)]
theorem sc_is_tuple_of : FnScope N_is_tuple_of ["thing", "many"] (defScope s_is_tuple_of) := ⟨rfl, rfl, rfl, by decide +kernel, rfl, by decide +kernel, by decide +kernel⟩
theorem ok_is_tuple_of (hw : C.w = w) (T : Bn mg) (S : Stands C.K mg "is_tuple_of" s_is_tuple_of ["thing", "many"]) : Df P w C.K mg base 1 "is_tuple_of" ["thing", "many"] (spV C 2 (Pg.F_is_tuple_of)) := by
  have sc := sc_is_tuple_of
  subst hw
  exact Dv.nf (Dv.of (k := 0) (g := Pg.g_is_tuple_of) S sc_is_tuple_of rfl fun f cdv A outer s H E hr hf =>
      (qs_one (q_ret (q_and (q_isi (T := "tuple") (by simp) rfl rfl (pe_callB call_isiW rfl T.n_isinstance (by decide +kernel) (pa_cons (qv 0) (pa_cons (pe_bltn (v := .ty "tuple") rfl T.n_tuple PyProof.Rows.boot_tuple rfl) pa_nil)))) (q_one (q_cmp (op_eq.or (op_eqD hr.units)) vo_eq (q_callB call_len_seq vc_len rfl T.n_len PySem.boot_len (qa_cons (qv 0) qa_nil)) (qv 1) (nomark _)))))))
abbrev s_is_headed : Stmt := topS 4
abbrev N_is_headed : List Str := [("thing" : Str), ("word" : Str), ("many" : Str)]
theorem sc_is_headed : FnScope N_is_headed ["thing", "word", "many"] (defScope s_is_headed) := ⟨rfl, rfl, rfl, by decide +kernel, rfl, by decide +kernel, by decide +kernel⟩
theorem ok_is_headed (hw : C.w = w) (T : Bn mg) (S : Stands C.K mg "is_headed" s_is_headed ["thing", "word", "many"]) (d_is_tuple_of : Df P w C.K mg base 1 "is_tuple_of" ["thing", "many"] (spV C 2 (Pg.F_is_tuple_of))) : Df P w C.K mg base 2 "is_headed" ["thing", "word", "many"] (spV C 3 (Pg.F_is_headed)) := by
  have sc := sc_is_headed
  subst hw
  exact Dv.nf (Dv.of (k := 1) (g := Pg.g_is_headed) S sc_is_headed rfl fun f cdv A outer s H E hr hf =>
      (qs_one (q_ret (q_and (q_df d_is_tuple_of (hr.mono (by decide)) hf rfl (qa_cons (qv 0) (qa_cons (qv 2) qa_nil))) (q_and (q_isi (T := "str") (by simp) rfl rfl (pe_callB call_isiW rfl T.n_isinstance (by decide +kernel) (pa_cons (q_ix rfl (qv 0) q_int (fun _ _ => rfl)) (pa_cons (pe_bltn (v := .ty "str") rfl T.n_str (by decide +kernel) rfl) pa_nil)))) (q_one (q_cmp (op_eq.or (op_eqD hr.units)) vo_eq (q_ix rfl (qv 0) q_int (fun _ _ => rfl)) (qv 1) (nomark _))))))))
abbrev s_is_joined : Stmt := topS 6
abbrev N_is_joined : List Str := [("thing" : Str)]
theorem sc_is_joined : FnScope N_is_joined ["thing"] (defScope s_is_joined) := ⟨rfl, rfl, rfl, by decide +kernel, rfl, by decide +kernel, by decide +kernel⟩
theorem ok_is_joined (hw : C.w = w) (T : Bn mg) (S : Stands C.K mg "is_joined" s_is_joined ["thing"]) (d_is_headed : Df P w C.K mg base 2 "is_headed" ["thing", "word", "many"] (spV C 3 (Pg.F_is_headed))) : Df P w C.K mg base 3 "is_joined" ["thing"] (spV C 1 (Pg.F_is_joined)) := by
  have sc := sc_is_joined
  subst hw
  exact Dv.nf (Dv.of (k := 2) (g := Pg.g_is_joined) S sc_is_joined rfl fun f cdv A outer s H E hr hf =>
      (qs_one (q_ret (q_or (q_df d_is_headed (hr.mono (by decide)) hf rfl (qa_cons (qv 0) (qa_cons q_str (qa_cons q_int qa_nil)))) (q_or (q_df d_is_headed (hr.mono (by decide)) hf rfl (qa_cons (qv 0) (qa_cons q_str (qa_cons q_int qa_nil)))) (q_one (q_df d_is_headed (hr.mono (by decide)) hf rfl (qa_cons (qv 0) (qa_cons q_str (qa_cons q_int qa_nil))))))))))
abbrev s_all_simples : Stmt := topS 7
abbrev N_all_simples : List Str := [("saying" : Str), ("found" : Str), ("part" : Str)]
theorem sc_all_simples : FnScope N_all_simples ["saying"] (defScope s_all_simples) := ⟨rfl, rfl, rfl, by decide +kernel, rfl, by decide +kernel, by decide +kernel⟩
theorem ok_all_simples (hw : C.w = w) (T : Bn mg) (S : Stands C.K mg "all_simples" s_all_simples ["saying"]) (d_is_joined : Df P w C.K mg base 3 "is_joined" ["thing"] (spV C 1 (Pg.F_is_joined))) : ∀ k, Df P w C.K mg base (4 + k) "all_simples" ["saying"] (spV C 1 (Pg.F_all_simples k))
  | 0 => Dv.never S
  | k + 1 => by
    have ih := ok_all_simples hw T S d_is_joined k
    have sc := sc_all_simples
    subst hw
    exact Dv.nf (Dv.of (k := 4 + k) (g := Pg.g_all_simples (Pg.F_all_simples k)) S sc_all_simples rfl fun f cdv A outer s H E hr hf =>
      (qs_cons (q_if (qt_not (qt_val (q_df d_is_joined (hr.mono (by omega)) hf rfl (qa_cons (qv 0) qa_nil)))) (qs_one (q_ret (q_lst (qa_cons (qv 0) qa_nil)))) qs_nil)
      (qs_cons (q_set (i := 1) sc.nd rfl (Or.inl rfl) (q_lst qa_nil))
      (qs_cons (q_for PassesOwn.never rfl (qi_seq rfl (q_slT rfl (qv 0) qo_int qo_none)) (qg_name (i := 2) sc.nd rfl (Or.inl rfl)) (qs_one (q_expr (q_ext rfl (pe_bm PySem.F.plainAttrs_list PySem.F.slot_list_extend PySem.F.type_list_extend mt_extend (qv 1) (pa_cons (q_df ih (hr.mono (by omega)) hf rfl (qa_cons (qv 2) qa_nil)) pa_nil))))))
      (qs_one (q_ret (qv 1)))))))
abbrev s_simples : Stmt := topS 9
abbrev N_simples : List Str := [("saying" : Str)]
theorem sc_simples : FnScope N_simples ["saying"] (defScope s_simples) := ⟨rfl, rfl, rfl, by decide +kernel, rfl, by decide +kernel, by decide +kernel⟩
theorem ok_simples (hw : C.w = w) (T : Bn mg) (S : Stands C.K mg "simples" s_simples ["saying"]) (d_all_simples : Df P w C.K mg base 13 "all_simples" ["saying"] (spV C 1 (Pg.F_all_simples 9))) : Df P w C.K mg base 14 "simples" ["saying"] (spV C 1 (Pg.F_simples)) := by
  have sc := sc_simples
  subst hw
  exact Dv.nf (Dv.of (k := 13) (g := Pg.g_simples) S sc_simples rfl fun f cdv A outer s H E hr hf =>
      (qs_one (q_ret (q_callTy call_tuple_of vc_tuple rfl T.n_tuple PyProof.Rows.boot_tuple (qa_cons (q_sortSet rfl rfl rfl hr.units (pe_callB (cr_sortK rfl hr.units) rfl T.n_sorted PyProof.Rows.boot_sorted (pa_cons (pe_callTy (cr_setK rfl hr.units) rfl T.n_set PyProof.Rows.boot_set (pa_cons (q_df d_all_simples (hr.mono (by decide)) hf rfl (qa_cons (qv 0) qa_nil)) pa_nil)) pa_nil))) qa_nil)))))
abbrev s__law_of : Stmt := topS 24
abbrev N__law_of : List Str := [("_law_hand_here" : Str), ("_law_some" : Str)]
theorem sc__law_of : FnScope N__law_of ["_law_hand_here", "_law_some"] (defScope s__law_of) := ⟨rfl, rfl, rfl, by decide +kernel, rfl, by decide +kernel, by decide +kernel⟩
theorem ok__law_of (hw : C.w = w) (T : Bn mg) (S : Stands C.K mg "_law_of" s__law_of ["_law_hand_here", "_law_some"]) (d__law_take : Df P w C.K mg base 1 "_law_take" ["_law_hand_here", "_law_many"] (spV C 2 (Lx.F__law_take))) : Df P w C.K mg base 2 "_law_of" ["_law_hand_here", "_law_some"] (spV C 2 (Lx.F__law_of)) := by
  have sc := sc__law_of
  subst hw
  exact Dv.nf (Dv.of (k := 1) (g := Lx.g__law_of) S sc__law_of rfl fun f cdv A outer s H E hr hf =>
      (qs_one (q_ret (q_ix rfl (qv 1) (q_df d__law_take (hr.mono (by decide)) hf rfl (qa_cons (qv 0) (qa_cons (q_callB call_len_seq vc_len rfl T.n_len PySem.boot_len (qa_cons (qv 1) qa_nil)) qa_nil))) (fun _ _ => rfl)))))
abbrev s__law_size : Stmt := topS 27
abbrev N__law_size : List Str := [("_law_simple_here" : Str), ("_law_worth" : Str)]
theorem sc__law_size : FnScope N__law_size ["_law_simple_here"] (defScope s__law_size) := ⟨rfl, rfl, rfl, by decide +kernel, rfl, by decide +kernel, by decide +kernel⟩
theorem ok__law_size (hw : C.w = w) (T : Bn mg) (S : Stands C.K mg "_law_size" s__law_size ["_law_simple_here"]) : Df P w C.K mg base 1 "_law_size" ["_law_simple_here"] (spV C 1 (K07.F__law_size)) := by
  have sc := sc__law_size
  subst hw
  exact Dv.nf (Dv.of (k := 0) (g := K07.g__law_size) S sc__law_size rfl fun f cdv A outer s H E hr hf =>
      (qs_cons (q_if (qt_cmp (op_eq.or (op_eqD hr.units)) vo_eq (q_ix rfl (qv 0) q_int (fun _ _ => rfl)) q_str (nomark _)) (qs_one (q_ret (q_op op_sub vo_sub (q_ix rfl (qv 0) q_int (fun _ _ => rfl)) q_int))) qs_nil)
      (qs_one (q_ret (q_callB (cr_max rfl) vc_maxL rfl T.n_max (by decide +kernel) (qa_cons (q_op op_cat vo_cat (q_lc (own := [("_law_worth", 1)]) rfl sc.nd (qi_seq rfl (q_ix rfl (qv 0) q_int (fun _ _ => rfl))) (blkOk_by (own := [("_law_worth", 1)]) (N := N__law_size) (sc := defScope s__law_size) (by decide +kernel)) (by decide) (fun _ _ _ _ _ => (qg_name (i := 1) sc.nd rfl (Or.inl rfl))) (fun _ _ _ _ _ => qts_nil) (fun _ _ _ _ _ => (q_callB call_abs vc_abs rfl T.n_abs (by decide +kernel) (qa_cons (qv 1) qa_nil)))) (q_lst (qa_cons (q_op op_add vo_add (q_callB call_abs vc_abs rfl T.n_abs (by decide +kernel) (qa_cons (q_ix rfl (qv 0) q_int (fun _ _ => rfl)) qa_nil)) q_int) qa_nil))) qa_nil))))))
abbrev s__law_so : Stmt := topS 28
abbrev N__law_so : List Str := [("_law_simple_here" : Str), ("_law_number" : Str)]
theorem sc__law_so : FnScope N__law_so ["_law_simple_here", "_law_number"] (defScope s__law_so) := ⟨rfl, rfl, rfl, by decide +kernel, rfl, by decide +kernel, by decide +kernel⟩
theorem ok__law_so (hw : C.w = w) (T : Bn mg) (S : Stands C.K mg "_law_so" s__law_so ["_law_simple_here", "_law_number"]) : Df P w C.K mg base 1 "_law_so" ["_law_simple_here", "_law_number"] (spV C 2 (K07.F__law_so)) := by
  have sc := sc__law_so
  subst hw
  exact Dv.nf (Dv.of (k := 0) (g := K07.g__law_so) S sc__law_so rfl fun f cdv A outer s H E hr hf =>
      (qs_one (q_ret (q_ifE (qt_cmp (op_eq.or (op_eqD hr.units)) vo_eq (q_ix rfl (qv 0) q_int (fun _ _ => rfl)) q_str (nomark _)) (q_cmp (op_eq.or (op_eqD hr.units)) vo_eq (qv 1) (q_ix rfl (qv 0) q_int (fun _ _ => rfl)) (nomark _)) (q_cmp op_ge vo_ge (qv 1) (q_ix rfl (qv 0) q_int (fun _ _ => rfl)) (nomark _))))))
abbrev s__law_hold : Stmt := topS 29
abbrev N__law_hold : List Str := [("_law_hand_here" : Str), ("_law_simple_here" : Str), ("_law_as_note" : Str), ("_law_size_here" : Str), ("_law_low" : Str), ("_law_near" : Str), ("_law_number" : Str), ("_law_leads" : Str), ("_law_word" : Str), ("_law_by" : Str)]
theorem sc__law_hold : FnScope N__law_hold ["_law_hand_here", "_law_simple_here", "_law_as_note"] (defScope s__law_hold) := ⟨rfl, rfl, rfl, by decide +kernel, rfl, by decide +kernel, by decide +kernel⟩
theorem ok__law_hold (hw : C.w = w) (T : Bn mg) (S : Stands C.K mg "_law_hold" s__law_hold ["_law_hand_here", "_law_simple_here", "_law_as_note"]) (d__law_size : Df P w C.K mg base 1 "_law_size" ["_law_simple_here"] (spV C 1 (K07.F__law_size))) (d__law_take : Df P w C.K mg base 1 "_law_take" ["_law_hand_here", "_law_many"] (spV C 2 (Lx.F__law_take))) (d__law_of : Df P w C.K mg base 2 "_law_of" ["_law_hand_here", "_law_some"] (spV C 2 (Lx.F__law_of))) (d__law_so : Df P w C.K mg base 1 "_law_so" ["_law_simple_here", "_law_number"] (spV C 2 (K07.F__law_so))) : Df P w C.K mg base 3 "_law_hold" ["_law_hand_here", "_law_simple_here", "_law_as_note"] (spV C 3 (F__law_hold)) := by
  have sc := sc__law_hold
  subst hw
  exact Dv.nf (Dv.of (k := 2) (g := g__law_hold) S sc__law_hold rfl fun f cdv A outer s H E hr hf =>
      (qs_cons (q_set (i := 3) sc.nd rfl (Or.inr rfl) (q_op op_mul vo_mul (q_df d__law_size (hr.mono (by decide)) hf rfl (qa_cons (qv 1) qa_nil)) (q_ix rfl (q_lst (qa_cons q_int (qa_cons q_int qa_nil))) (q_callTy call_int1 vc_int rfl T.n_int (by decide +kernel) (qa_cons (q_and (qv 2) (q_one (q_cmp (op_eq.or (op_eqD hr.units)) vo_eq (q_ix rfl (qv 1) q_int (fun _ _ => rfl)) q_str (nomark _)))) qa_nil)) (fun _ _ => rfl))))
      (qs_cons (q_set (i := 4) sc.nd rfl (Or.inr rfl) (q_ifE (qt_cmp (op_eq.or (op_eqD hr.units)) vo_eq (q_ix rfl (qv 1) q_int (fun _ _ => rfl)) q_str (nomark _)) q_int (q_op op_sub vo_sub q_int (qv 3))))
      (qs_cons (q_setLc (i := 5) (own := [("_law_by", 9)]) rfl sc.nd rfl rfl (sw_true rfl rfl rfl (by decide +kernel)) (qi_seq rfl (q_tup (qa_cons (q_un un_neg vu_neg q_int) (qa_cons q_int (qa_cons q_int qa_nil))))) (blkOk_by (own := [("_law_by", 9)]) (N := N__law_hold) (sc := defScope s__law_hold) (by decide +kernel)) (by decide) (fun _ _ _ _ _ => (qg_name (i := 9) sc.nd rfl (Or.inl rfl))) (fun _ _ _ _ _ => qts_nil) (fun _ _ _ _ _ => (q_callB (call_min2 rfl) vc_min2 rfl T.n_min (by decide +kernel) (qa_cons (qv 3) (qa_cons (q_callB (call_max2 rfl) vc_max2 rfl T.n_max (by decide +kernel) (qa_cons (qv 4) (qa_cons (q_op op_add vo_add (q_ix rfl (qv 1) q_int (fun _ _ => rfl)) (qv 9)) qa_nil))) qa_nil)))))
      (qs_cons (q_set (i := 6) sc.nd rfl (Or.inl rfl) (q_df d__law_of (hr.mono (by decide)) hf rfl (qa_cons (qv 0) (qa_cons (q_op op_cat vo_cat (q_lst (qa_cons (qv 4) (qa_cons (qv 3) (qa_cons q_int (qa_cons (q_op op_add vo_add (qv 4) (q_df d__law_take (hr.mono (by decide)) hf rfl (qa_cons (qv 0) (qa_cons (q_op op_add vo_add (q_op op_sub vo_sub (qv 3) (qv 4)) q_int) qa_nil)))) qa_nil))))) (qv 5)) qa_nil))))
      (qs_cons (q_par (i := 7) (j := 8) rfl sc.nd rfl rfl (by decide) rfl rfl (qa_cons (q_cmp (op_eq.or (op_eqD hr.units)) vo_eq (q_df d__law_take (hr.mono (by decide)) hf rfl (qa_cons (qv 0) (qa_cons q_int qa_nil))) q_int (nomark _)) (qa_cons (q_cmp (op_eq.or (op_eqD hr.units)) vo_eq (q_df d__law_take (hr.mono (by decide)) hf rfl (qa_cons (qv 0) (qa_cons q_int qa_nil))) q_int (nomark _)) qa_nil)) rfl)
      (qs_cons (q_if (qt_val (qv 2)) (qs_one (q_ret (q_tup (qa_cons (qv 7) (qa_cons (qv 6) qa_nil))))) qs_nil)
      (qs_one (q_ret (q_tup (qa_cons (qv 7) (qa_cons (qv 6) (qa_cons (q_ifE (qt_val (qv 7)) (q_df d__law_so (hr.mono (by decide)) hf rfl (qa_cons (qv 1) (qa_cons (qv 6) qa_nil))) (qv 8)) qa_nil)))))))))))))
abbrev s__law_state : Stmt := topS 30
abbrev N__law_state : List Str := [("_law_hand_here" : Str), ("_law_some" : Str), ("_law_sorts" : Str), ("_law_as_note" : Str), ("_law_holds" : Str), ("_law_simple_here" : Str), ("_law_hold_here" : Str)]
theorem sc__law_state : FnScope N__law_state ["_law_hand_here", "_law_some", "_law_sorts"] (defScope s__law_state) := ⟨rfl, rfl, rfl, by decide +kernel, rfl, by decide +kernel, by decide +kernel⟩
theorem ok__law_state (hw : C.w = w) (T : Bn mg) (S : Stands C.K mg "_law_state" s__law_state ["_law_hand_here", "_law_some", "_law_sorts"]) (d__law_take : Df P w C.K mg base 1 "_law_take" ["_law_hand_here", "_law_many"] (spV C 2 (Lx.F__law_take))) (d__law_hold : Df P w C.K mg base 3 "_law_hold" ["_law_hand_here", "_law_simple_here", "_law_as_note"] (spV C 3 (F__law_hold))) : Df P w C.K mg base 4 "_law_state" ["_law_hand_here", "_law_some", "_law_sorts"] (spV C 3 (F__law_state)) := by
  have sc := sc__law_state
  subst hw
  exact Dv.nf (Dv.of (k := 3) (g := g__law_state) S sc__law_state rfl fun f cdv A outer s H E hr hf =>
      (qs_cons (q_set (i := 3) sc.nd rfl (Or.inr rfl) (q_cmp (op_eq.or (op_eqD hr.units)) vo_eq (q_df d__law_take (hr.mono (by decide)) hf rfl (qa_cons (qv 0) (qa_cons q_int qa_nil))) q_int (nomark _)))
      (qs_cons (q_setLc (i := 4) (own := [("_law_simple_here", 5)]) rfl sc.nd rfl rfl (sw_true rfl rfl rfl (by decide +kernel)) (qi_seq rfl (qv 1)) (blkOk_by (own := [("_law_simple_here", 5)]) (N := N__law_state) (sc := defScope s__law_state) (by decide +kernel)) (by decide) (fun _ _ _ _ _ => (qg_name (i := 5) sc.nd rfl (Or.inl rfl))) (fun _ _ _ _ _ => qts_nil) (fun _ _ _ _ _ => (q_df d__law_hold (hr.mono (by decide)) hf rfl (qa_cons (qv 0) (qa_cons (qv 5) (qa_cons (qv 3) qa_nil))))))
      (qs_cons (q_if (qt_not (qt_val (qv 3))) (qs_one (q_ret (q_tup (qa_cons q_str (qa_cons (q_df d__law_take (hr.mono (by decide)) hf rfl (qa_cons (qv 0) (qa_cons (qv 2) qa_nil))) (qa_cons (q_callTy call_tuple_of vc_tuple rfl T.n_tuple PyProof.Rows.boot_tuple (qa_cons (qv 4) qa_nil)) qa_nil)))))) qs_nil)
      (qs_cons (q_if (qt_cmp (op_eqD hr.units) vo_eqL (q_lc (own := [("_law_hold_here", 6)]) rfl sc.nd (qi_seq rfl (qv 4)) (blkOk_by (own := [("_law_hold_here", 6)]) (N := N__law_state) (sc := defScope s__law_state) (by decide +kernel)) (by decide) (fun _ _ _ _ _ => (qg_name (i := 6) sc.nd rfl (Or.inl rfl))) (fun _ _ _ _ _ => (qts_one (qt_cmp (op_ne.or (op_neD hr.units)) vo_ne (qv 6) (q_tup (qa_cons q_bl (qa_cons q_int qa_nil))) (nomark _)))) (fun _ _ _ _ _ => (qv 6))) (q_lst qa_nil) (nomark _)) (qs_one (q_put (q_tup (qa_cons q_bl (qa_cons q_int qa_nil))) (qv 4) (q_df d__law_take (hr.mono (by decide)) hf rfl (qa_cons (qv 0) (qa_cons (q_callB call_len_seq vc_len rfl T.n_len PySem.boot_len (qa_cons (qv 4) qa_nil)) qa_nil))) (pg_sub (qv 4) (q_df d__law_take (hr.mono (by decide)) hf rfl (qa_cons (qv 0) (qa_cons (q_callB call_len_seq vc_len rfl T.n_len PySem.boot_len (qa_cons (qv 4) qa_nil)) qa_nil))) set_list))) qs_nil)
      (qs_one (q_ret (q_tup (qa_cons q_str (qa_cons (q_callTy call_tuple_of vc_tuple rfl T.n_tuple PyProof.Rows.boot_tuple (qa_cons (qv 4) qa_nil)) qa_nil))))))))))
abbrev s__law_simple : Stmt := topS 25
abbrev N__law_simple : List Str := [("_law_hand_here" : Str), ("_law_sorts" : Str), ("_law_way" : Str), ("_law_far" : Str), ("_law_worths" : Str), ("_law_m" : Str), ("_law_sort" : Str)]
theorem sc__law_simple : FnScope N__law_simple ["_law_hand_here", "_law_sorts"] (defScope s__law_simple) := ⟨rfl, rfl, rfl, by decide +kernel, rfl, by decide +kernel, by decide +kernel⟩
theorem ok__law_simple (hw : C.w = w) (T : Bn mg) (S : Stands C.K mg "_law_simple" s__law_simple ["_law_hand_here", "_law_sorts"]) (d__law_take : Df P w C.K mg base 1 "_law_take" ["_law_hand_here", "_law_many"] (spV C 2 (Lx.F__law_take))) (d__law_of : Df P w C.K mg base 2 "_law_of" ["_law_hand_here", "_law_some"] (spV C 2 (Lx.F__law_of))) : Df P w C.K mg base 3 "_law_simple" ["_law_hand_here", "_law_sorts"] (spV C 2 (Lx.F__law_simple)) := by
  have sc := sc__law_simple
  subst hw
  exact Dv.nf (Dv.of (k := 2) (g := Lx.g__law_simple) S sc__law_simple rfl fun f cdv A outer s H E hr hf =>
      (qs_cons (q_par (i := 2) (j := 3) rfl sc.nd rfl rfl (by decide) rfl rfl (qa_cons (q_df d__law_take (hr.mono (by decide)) hf rfl (qa_cons (qv 0) (qa_cons q_int qa_nil))) (qa_cons (q_df d__law_take (hr.mono (by decide)) hf rfl (qa_cons (qv 0) (qa_cons q_int qa_nil))) qa_nil)) rfl)
      (qs_cons (q_set (i := 4) sc.nd rfl (Or.inl rfl) (q_callTy call_tuple_of vc_tuple rfl T.n_tuple PyProof.Rows.boot_tuple (qa_cons (q_lc (own := [("_law_sort", 6)]) rfl sc.nd (qi_range1 rfl T.n_range (qa_cons (qv 1) qa_nil)) (blkOk_by (own := [("_law_sort", 6)]) (N := N__law_simple) (sc := defScope s__law_simple) (by decide +kernel)) (by decide) (fun _ _ _ _ _ => (qg_name (i := 6) sc.nd rfl (Or.inl rfl))) (fun _ _ _ _ _ => qts_nil) (fun _ _ _ _ _ => (q_df d__law_of (hr.mono (by decide)) hf rfl (qa_cons (qv 0) (qa_cons (q_lst (qa_cons q_int (qa_cons q_int (qa_cons (q_un un_neg vu_neg q_int) (qa_cons q_int (qa_cons q_int (qa_cons (q_un un_neg vu_neg q_int) (qa_cons (q_op op_sub vo_sub (q_df d__law_take (hr.mono (by decide)) hf rfl (qa_cons (qv 0) (qa_cons q_int qa_nil))) q_int) qa_nil)))))))) qa_nil))))) qa_nil)))
      (qs_cons (q_if (qt_cmp op_lt vo_lt (qv 2) q_int (nomark _)) (qs_one (q_ret (q_tup (qa_cons q_str (qa_cons (qv 4) (qa_cons (q_ix rfl (q_lst (qa_cons (q_op op_sub vo_sub (q_df d__law_take (hr.mono (by decide)) hf rfl (qa_cons (qv 0) (qa_cons q_int qa_nil))) q_int) (qa_cons (q_op op_sub vo_sub (q_df d__law_take (hr.mono (by decide)) hf rfl (qa_cons (qv 0) (qa_cons q_int qa_nil))) q_int) (qa_cons q_int (qa_cons (q_un un_neg vu_neg q_int) qa_nil))))) (qv 3) (fun _ _ => rfl)) qa_nil)))))) qs_nil)
      (qs_cons (q_set (i := 5) sc.nd rfl (Or.inl rfl) (q_op op_add vo_add q_int (q_df d__law_take (hr.mono (by decide)) hf rfl (qa_cons (qv 0) (qa_cons q_int qa_nil)))))
      (qs_one (q_ret (q_tup (qa_cons q_str (qa_cons (qv 4) (qa_cons (q_df d__law_take (hr.mono (by decide)) hf rfl (qa_cons (qv 0) (qa_cons (qv 5) qa_nil))) (qa_cons (qv 5) qa_nil))))))))))))
abbrev s_is_whole : Stmt := topS 1
abbrev N_is_whole : List Str := [("thing" : Str)]
theorem sc_is_whole : FnScope N_is_whole ["thing"] (defScope s_is_whole) := ⟨rfl, rfl, rfl, by decide +kernel, rfl, by decide +kernel, by decide +kernel⟩
theorem ok_is_whole (hw : C.w = w) (T : Bn mg) (S : Stands C.K mg "is_whole" s_is_whole ["thing"]) : Df P w C.K mg base 1 "is_whole" ["thing"] (spV C 1 (K07.F_is_whole)) := by
  have sc := sc_is_whole
  subst hw
  exact Dv.nf (Dv.of (k := 0) (g := K07.g_is_whole) S sc_is_whole rfl fun f cdv A outer s H E hr hf =>
      (qs_one (q_ret (q_and (q_isi (T := "int") (by simp) rfl rfl (pe_callB call_isiW rfl T.n_isinstance (by decide +kernel) (pa_cons (qv 0) (pa_cons (pe_bltn (v := .ty "int") rfl T.n_int (by decide +kernel) rfl) pa_nil)))) (q_one (q_not (q_isi (T := "bool") (by simp) rfl rfl (pe_callB call_isiW rfl T.n_isinstance (by decide +kernel) (pa_cons (qv 0) (pa_cons (pe_bltn (v := .ty "bool") rfl T.n_bool (by decide +kernel) rfl) pa_nil))))))))))
abbrev s_is_whole_within : Stmt := topS 2
abbrev N_is_whole_within : List Str := [("thing" : Str), ("low" : Str), ("high" : Str)]
theorem sc_is_whole_within : FnScope N_is_whole_within ["thing", "low", "high"] (defScope s_is_whole_within) := ⟨rfl, rfl, rfl, by decide +kernel, rfl, by decide +kernel, by decide +kernel⟩
theorem ok_is_whole_within (hw : C.w = w) (T : Bn mg) (S : Stands C.K mg "is_whole_within" s_is_whole_within ["thing", "low", "high"]) (d_is_whole : Df P w C.K mg base 1 "is_whole" ["thing"] (spV C 1 (K07.F_is_whole))) : Df P w C.K mg base 2 "is_whole_within" ["thing", "low", "high"] (spV C 3 (K07.F_is_whole_within)) := by
  have sc := sc_is_whole_within
  subst hw
  exact Dv.nf (Dv.of (k := 1) (g := K07.g_is_whole_within) S sc_is_whole_within rfl fun f cdv A outer s H E hr hf =>
      (qs_one (q_ret (q_and (q_df d_is_whole (hr.mono (by decide)) hf rfl (qa_cons (qv 0) qa_nil)) (q_one (q_chain op_le vo_le op_le vo_le (qv 1) (qv 0) (qv 2)))))))
abbrev s_size_of : Stmt := topS 11
abbrev N_size_of : List Str := [("simple" : Str), ("worth" : Str)]
theorem sc_size_of : FnScope N_size_of ["simple"] (defScope s_size_of) := ⟨rfl, rfl, rfl, by decide +kernel, rfl, by decide +kernel, by decide +kernel⟩
theorem ok_size_of (hw : C.w = w) (T : Bn mg) {f0 c0 P0 : Addr} {fd0 : FuncData} (S : Fun C.K "size_of" "size_of" s_size_of f0 fd0) (hm : mg "size_of" = some (.ref f0)) (hb : Binds C.K fd0 ["simple"] []) (hc : fd0.code = .ref c0) (TB : LamX.TabB base mg c0 P0) (hP : P0 ∈ C.T) : Df P w C.K mg base 2 "size_of" ["simple"] (spV C 1 (Pg.F_size_of)) := by
  have sc := sc_size_of
  subst hw
  exact Dv.nf (Dv.ofC (k := 1) (g := Pg.g_size_of) S hm hb hc sc_size_of rfl fun A outer s H E hr hf =>
      (qs_cons (q_if (qt_cmp (op_eq.or (op_eqD hr.units)) vo_eq (q_ix rfl (qv 0) q_int (fun _ _ => rfl)) q_str (nomark _)) (qs_one (q_ret (q_op op_sub vo_sub (q_ix rfl (qv 0) q_int (fun _ _ => rfl)) q_int))) qs_nil)
      (qs_one (q_ret (q_callB (call_max2 rfl) vc_max2 rfl T.n_max (by decide +kernel) (qa_cons (q_op op_add vo_add q_int (q_callB call_abs vc_abs rfl T.n_abs (by decide +kernel) (qa_cons (q_ix rfl (qv 0) q_int (fun _ _ => rfl)) qa_nil))) (qa_cons (q_maxAbs (i := 1) rfl (q_maxX (own := [("worth", 1)]) (k := 0) (hr.mono (by decide)) hf rfl sc.nd rfl T.n_max TB hP rfl (gsc_by (by decide +kernel)) (blkOk_by (own := [("worth", 1)]) (N := N_size_of) (sc := defScope s_size_of) (by decide +kernel)) (qi_seq rfl (q_ix rfl (qv 0) q_int (fun _ _ => rfl))) (by decide) (fun _ _ _ _ _ _ _ hr hf => (qg_name (i := 1) sc.nd rfl (Or.inl rfl))) (fun _ _ _ _ _ _ _ hr hf => qts_nil) (fun _ _ _ _ _ _ _ hr hf => (q_callB call_abs vc_abs rfl T.n_abs (by decide +kernel) (qa_cons (qv 1) qa_nil))))) qa_nil)))))))
abbrev s_is_borne : Stmt := topS 14
abbrev N_is_borne : List Str := [("simple" : Str), ("number" : Str), ("scale" : Str), ("size" : Str)]
theorem sc_is_borne : FnScope N_is_borne ["simple", "number", "scale"] (defScope s_is_borne) := ⟨rfl, rfl, rfl, by decide +kernel, rfl, by decide +kernel, by decide +kernel⟩
theorem ok_is_borne (hw : C.w = w) (T : Bn mg) (S : Stands C.K mg "is_borne" s_is_borne ["simple", "number", "scale"]) (d_size_of : Df P w C.K mg base 2 "size_of" ["simple"] (spV C 1 (Pg.F_size_of))) (d_is_whole_within : Df P w C.K mg base 2 "is_whole_within" ["thing", "low", "high"] (spV C 3 (K07.F_is_whole_within))) : Df P w C.K mg base 3 "is_borne" ["simple", "number", "scale"] (spV C 3 (K07.F_is_borne)) := by
  have sc := sc_is_borne
  subst hw
  exact Dv.nf (Dv.of (k := 2) (g := K07.g_is_borne) S sc_is_borne rfl fun f cdv A outer s H E hr hf =>
      (qs_cons (q_set (i := 3) sc.nd rfl (Or.inl rfl) (q_df d_size_of (hr.mono (by decide)) hf rfl (qa_cons (qv 0) qa_nil)))
      (qs_cons (q_if (qt_cmp (op_eq.or (op_eqD hr.units)) vo_eq (q_ix rfl (qv 0) q_int (fun _ _ => rfl)) q_str (nomark _)) (qs_one (q_ret (q_df d_is_whole_within (hr.mono (by decide)) hf rfl (qa_cons (qv 1) (qa_cons q_int (qa_cons (qv 3) qa_nil)))))) qs_nil)
      (qs_one (q_ret (q_df d_is_whole_within (hr.mono (by decide)) hf rfl (qa_cons (qv 1) (qa_cons (q_op op_mul vo_mul (q_un un_neg vu_neg (qv 2)) (qv 3)) (qa_cons (q_op op_mul vo_mul (qv 2) (qv 3)) qa_nil)))))))))
abbrev s_says : Stmt := topS 12
abbrev N_says : List Str := [("simple" : Str), ("number" : Str)]
theorem sc_says : FnScope N_says ["simple", "number"] (defScope s_says) := ⟨rfl, rfl, rfl, by decide +kernel, rfl, by decide +kernel, by decide +kernel⟩
theorem ok_says (hw : C.w = w) (T : Bn mg) (S : Stands C.K mg "says" s_says ["simple", "number"]) : Df P w C.K mg base 1 "says" ["simple", "number"] (spV C 2 (Pg.F_says)) := by
  have sc := sc_says
  subst hw
  exact Dv.nf (Dv.of (k := 0) (g := Pg.g_says) S sc_says rfl fun f cdv A outer s H E hr hf =>
      (qs_cons (q_if (qt_cmp (op_eq.or (op_eqD hr.units)) vo_eq (q_ix rfl (qv 0) q_int (fun _ _ => rfl)) q_str (nomark _)) (qs_one (q_ret (q_cmp (op_eq.or (op_eqD hr.units)) vo_eq (qv 1) (q_ix rfl (qv 0) q_int (fun _ _ => rfl)) (nomark _)))) qs_nil)
      (qs_one (q_ret (q_cmp op_ge vo_ge (qv 1) (q_ix rfl (qv 0) q_int (fun _ _ => rfl)) (nomark _))))))
abbrev s_is_member_hold : Stmt := topS 15
abbrev N_is_member_hold : List Str := [("simple" : Str), ("thing" : Str), ("leads" : Str), ("number" : Str), ("word" : Str)]
theorem sc_is_member_hold : FnScope N_is_member_hold ["simple", "thing"] (defScope s_is_member_hold) := ⟨rfl, rfl, rfl, by decide +kernel, rfl, by decide +kernel, by decide +kernel⟩
theorem ok_is_member_hold (hw : C.w = w) (T : Bn mg) (S : Stands C.K mg "is_member_hold" s_is_member_hold ["simple", "thing"]) (d_is_tuple_of : Df P w C.K mg base 1 "is_tuple_of" ["thing", "many"] (spV C 2 (Pg.F_is_tuple_of))) (d_is_borne : Df P w C.K mg base 3 "is_borne" ["simple", "number", "scale"] (spV C 3 (K07.F_is_borne))) (d_says : Df P w C.K mg base 1 "says" ["simple", "number"] (spV C 2 (Pg.F_says))) : Df P w C.K mg base 4 "is_member_hold" ["simple", "thing"] (spV C 2 (K07.F_is_member_hold)) := by
  have sc := sc_is_member_hold
  subst hw
  exact Dv.nf (Dv.of (k := 3) (g := K07.g_is_member_hold) S sc_is_member_hold rfl fun f cdv A outer s H E hr hf =>
      (qs_cons (q_if (qt_not (qt_val (q_df d_is_tuple_of (hr.mono (by decide)) hf rfl (qa_cons (qv 1) (qa_cons q_int qa_nil))))) (qs_one (q_ret q_bl)) qs_nil)
      (qs_cons (q_asg (qv 1) (qg_tup rfl rfl (qgs_cons (qg_name (i := 2) sc.nd rfl (Or.inl rfl)) (qgs_cons (qg_name (i := 3) sc.nd rfl (Or.inl rfl)) (qgs_cons (qg_name (i := 4) sc.nd rfl (Or.inl rfl)) qgs_nil)))))
      (qs_cons (q_if (PW.pt (qw_or (qt_not (qt_val (q_isi (T := "bool") (by simp) rfl rfl (pe_callB call_isiW rfl T.n_isinstance (by decide +kernel) (pa_cons (qv 2) (pa_cons (pe_bltn (v := .ty "bool") rfl T.n_bool (by decide +kernel) rfl) pa_nil)))))) (qw_or (qt_not (qt_val (q_isi (T := "bool") (by simp) rfl rfl (pe_callB call_isiW rfl T.n_isinstance (by decide +kernel) (pa_cons (qv 4) (pa_cons (pe_bltn (v := .ty "bool") rfl T.n_bool (by decide +kernel) rfl) pa_nil)))))) (qw_or1 (qt_not (qt_val (q_df d_is_borne (hr.mono (by decide)) hf rfl (qa_cons (qv 0) (qa_cons (qv 3) (qa_cons q_int qa_nil)))))))))) (qs_one (q_ret q_bl)) qs_nil)
      (qs_one (q_ret (q_or (q_not (qv 2)) (q_one (q_cmp (op_eq.or (op_eqD hr.units)) vo_eq (qv 4) (q_df d_says (hr.mono (by decide)) hf rfl (qa_cons (qv 0) (qa_cons (qv 3) qa_nil))) (nomark _))))))))))
abbrev s_sorts_of : Stmt := topS 8
abbrev N_sorts_of : List Str := [("saying" : Str)]
theorem sc_sorts_of : FnScope N_sorts_of ["saying"] (defScope s_sorts_of) := ⟨rfl, rfl, rfl, by decide +kernel, rfl, by decide +kernel, by decide +kernel⟩
theorem ok_sorts_of (hw : C.w = w) (T : Bn mg) (S : Stands C.K mg "sorts_of" s_sorts_of ["saying"]) (d_is_joined : Df P w C.K mg base 3 "is_joined" ["thing"] (spV C 1 (Pg.F_is_joined))) : Df P w C.K mg base 4 "sorts_of" ["saying"] (spV C 1 (K07.F_sorts_of)) := by
  have sc := sc_sorts_of
  subst hw
  exact Dv.nf (Dv.of (k := 3) (g := K07.g_sorts_of) S sc_sorts_of rfl fun f cdv A outer s H E hr hf =>
      (qs_cons (q_while 1000000 PassesOwn.never (qt_val (q_df d_is_joined (hr.mono (by decide)) hf rfl (qa_cons (qv 0) qa_nil))) (qs_one (q_set (i := 0) sc.nd rfl (Or.inl rfl) (q_ix rfl (qv 0) q_int (fun _ _ => rfl)))))
      (qs_one (q_ret (q_callB call_len_seq vc_len rfl T.n_len PySem.boot_len (qa_cons (q_ix rfl (qv 0) q_int (fun _ _ => rfl)) qa_nil))))))
abbrev s_is_member_state : Stmt := topS 17
abbrev N_is_member_state : List Str := [("saying" : Str), ("thing" : Str), ("ones" : Str), ("simple" : Str), ("hold" : Str)]
theorem sc_is_member_state : FnScope N_is_member_state ["saying", "thing"] (defScope s_is_member_state) := ⟨rfl, rfl, rfl, by decide +kernel, rfl, by decide +kernel, by decide +kernel⟩
theorem ok_is_member_state (hw : C.w = w) (T : Bn mg) {f0 c0 P0 : Addr} {fd0 : FuncData} (S : Fun C.K "is_member_state" "is_member_state" s_is_member_state f0 fd0) (hm : mg "is_member_state" = some (.ref f0)) (hb : Binds C.K fd0 ["saying", "thing"] []) (hc : fd0.code = .ref c0) (TB : LamX.TabB base mg c0 P0) (hP : P0 ∈ C.T) (d_sorts_of : Df P w C.K mg base 4 "sorts_of" ["saying"] (spV C 1 (K07.F_sorts_of))) (d_is_whole_within : Df P w C.K mg base 2 "is_whole_within" ["thing", "low", "high"] (spV C 3 (K07.F_is_whole_within))) (d_is_headed : Df P w C.K mg base 2 "is_headed" ["thing", "word", "many"] (spV C 3 (Pg.F_is_headed))) (d_simples : Df P w C.K mg base 14 "simples" ["saying"] (spV C 1 (Pg.F_simples))) (d_is_tuple_of : Df P w C.K mg base 1 "is_tuple_of" ["thing", "many"] (spV C 2 (Pg.F_is_tuple_of))) (d_is_member_hold : Df P w C.K mg base 4 "is_member_hold" ["simple", "thing"] (spV C 2 (K07.F_is_member_hold))) : Df P w C.K mg base 15 "is_member_state" ["saying", "thing"] (spV C 2 (K07.F_is_member_state)) := by
  have sc := sc_is_member_state
  subst hw
  exact Dv.nf (Dv.ofC (k := 14) (g := K07.g_is_member_state) S hm hb hc sc_is_member_state rfl fun A outer s H E hr hf =>
      (qs_cons (q_if (PW.pt (qw_or (qt_not (qt_val (q_df d_is_headed (hr.mono (by decide)) hf rfl (qa_cons (qv 1) (qa_cons q_str (qa_cons q_int qa_nil)))))) (qw_or1 (qt_not (qt_val (q_df d_is_whole_within (hr.mono (by decide)) hf rfl (qa_cons (q_ix rfl (qv 1) q_int (fun _ _ => rfl)) (qa_cons q_int (qa_cons (q_op op_sub vo_sub (q_df d_sorts_of (hr.mono (by decide)) hf rfl (qa_cons (qv 0) qa_nil)) q_int) qa_nil))))))))) (qs_one (q_ret q_bl)) qs_nil)
      (qs_cons (q_set (i := 2) sc.nd rfl (Or.inl rfl) (q_df d_simples (hr.mono (by decide)) hf rfl (qa_cons (qv 0) qa_nil)))
      (qs_cons (q_if (qt_not (qt_val (q_df d_is_tuple_of (hr.mono (by decide)) hf rfl (qa_cons (q_ix rfl (qv 1) q_int (fun _ _ => rfl)) (qa_cons (q_callB call_len_seq vc_len rfl T.n_len PySem.boot_len (qa_cons (qv 2) qa_nil)) qa_nil))))) (qs_one (q_ret q_bl)) qs_nil)
      (qs_one (q_ret (q_allX (b0 := true) (own := [("simple", 3), ("hold", 4)]) (k := 13) (.inl ⟨rfl, rfl⟩) (hr.mono (by decide)) hf rfl sc.nd rfl T.n_all TB hP rfl (gsc_by (by decide +kernel)) (blkOk_by (own := [("simple", 3), ("hold", 4)]) (N := N_is_member_state) (sc := defScope s_is_member_state) (by decide +kernel)) (qi_zip2 rfl (pi_zip2 rfl T.n_zip (qa_cons (qv 2) (qa_cons (q_ix rfl (qv 1) q_int (fun _ _ => rfl)) qa_nil)))) (by decide) (fun _ _ _ _ _ _ _ hr hf => (qg_tup rfl rfl (qgs_cons (qg_name (i := 3) sc.nd rfl (Or.inl rfl)) (qgs_cons (qg_name (i := 4) sc.nd rfl (Or.inl rfl)) qgs_nil)))) (fun _ _ _ _ _ _ _ hr hf => qts_nil) (fun _ _ _ _ _ _ _ hr hf => (q_df d_is_member_hold (hr.mono (by decide)) hf rfl (qa_cons (qv 3) (qa_cons (qv 4) qa_nil)))))))))))
abbrev s_is_blank : Stmt := topS 20
abbrev N_is_blank : List Str := [("holds" : Str), ("hold" : Str)]
theorem sc_is_blank : FnScope N_is_blank ["holds"] (defScope s_is_blank) := ⟨rfl, rfl, rfl, by decide +kernel, rfl, by decide +kernel, by decide +kernel⟩
theorem ok_is_blank (hw : C.w = w) (T : Bn mg) {f0 c0 P0 : Addr} {fd0 : FuncData} (S : Fun C.K "is_blank" "is_blank" s_is_blank f0 fd0) (hm : mg "is_blank" = some (.ref f0)) (hb : Binds C.K fd0 ["holds"] []) (hc : fd0.code = .ref c0) (TB : LamX.TabB base mg c0 P0) (hP : P0 ∈ C.T) : Df P w C.K mg base 2 "is_blank" ["holds"] (spV C 1 (Pg.F_is_blank)) := by
  have sc := sc_is_blank
  subst hw
  exact Dv.nf (Dv.ofC (k := 1) (g := Pg.g_is_blank) S hm hb hc sc_is_blank rfl fun A outer s H E hr hf =>
      (qs_one (q_ret (q_allBlank (i := 1) rfl (q_allX (b0 := true) (own := [("hold", 1)]) (k := 0) (.inl ⟨rfl, rfl⟩) (hr.mono (by decide)) hf rfl sc.nd rfl T.n_all TB hP rfl (gsc_by (by decide +kernel)) (blkOk_by (own := [("hold", 1)]) (N := N_is_blank) (sc := defScope s_is_blank) (by decide +kernel)) (qi_seq rfl (qv 0)) (by decide) (fun _ _ _ _ _ _ _ hr hf => (qg_name (i := 1) sc.nd rfl (Or.inl rfl))) (fun _ _ _ _ _ _ _ hr hf => qts_nil) (fun _ _ _ _ _ _ _ hr hf => (q_cmp (op_eq.or (op_eqD hr.units)) vo_eq (qv 1) (q_tup (qa_cons q_bl (qa_cons q_int qa_nil))) (nomark _))))))))
abbrev s_is_note_hold : Stmt := topS 16
abbrev N_is_note_hold : List Str := [("simple" : Str), ("thing" : Str)]
theorem sc_is_note_hold : FnScope N_is_note_hold ["simple", "thing"] (defScope s_is_note_hold) := ⟨rfl, rfl, rfl, by decide +kernel, rfl, by decide +kernel, by decide +kernel⟩
theorem ok_is_note_hold (hw : C.w = w) (T : Bn mg) (S : Stands C.K mg "is_note_hold" s_is_note_hold ["simple", "thing"]) (d_is_borne : Df P w C.K mg base 3 "is_borne" ["simple", "number", "scale"] (spV C 3 (K07.F_is_borne))) (d_is_tuple_of : Df P w C.K mg base 1 "is_tuple_of" ["thing", "many"] (spV C 2 (Pg.F_is_tuple_of))) : Df P w C.K mg base 4 "is_note_hold" ["simple", "thing"] (spV C 2 (K07.F_is_note_hold)) := by
  have sc := sc_is_note_hold
  subst hw
  exact Dv.nf (Dv.of (k := 3) (g := K07.g_is_note_hold) S sc_is_note_hold rfl fun f cdv A outer s H E hr hf =>
      (qs_one (q_ret (q_and (q_df d_is_tuple_of (hr.mono (by decide)) hf rfl (qa_cons (qv 1) (qa_cons q_int qa_nil))) (q_and (q_isi (T := "bool") (by simp) rfl rfl (pe_callB call_isiW rfl T.n_isinstance (by decide +kernel) (pa_cons (q_ix rfl (qv 1) q_int (fun _ _ => rfl)) (pa_cons (pe_bltn (v := .ty "bool") rfl T.n_bool (by decide +kernel) rfl) pa_nil)))) (q_one (q_df d_is_borne (hr.mono (by decide)) hf rfl (qa_cons (qv 0) (qa_cons (q_ix rfl (qv 1) q_int (fun _ _ => rfl)) (qa_cons q_int qa_nil))))))))))
abbrev s_is_note_state : Stmt := topS 18
abbrev N_is_note_state : List Str := [("saying" : Str), ("thing" : Str), ("ones" : Str), ("simple" : Str), ("hold" : Str)]
theorem sc_is_note_state : FnScope N_is_note_state ["saying", "thing"] (defScope s_is_note_state) := ⟨rfl, rfl, rfl, by decide +kernel, rfl, by decide +kernel, by decide +kernel⟩
theorem ok_is_note_state (hw : C.w = w) (T : Bn mg) {f0 c0 P0 : Addr} {fd0 : FuncData} (S : Fun C.K "is_note_state" "is_note_state" s_is_note_state f0 fd0) (hm : mg "is_note_state" = some (.ref f0)) (hb : Binds C.K fd0 ["saying", "thing"] []) (hc : fd0.code = .ref c0) (TB : LamX.TabB base mg c0 P0) (hP : P0 ∈ C.T) (d_is_headed : Df P w C.K mg base 2 "is_headed" ["thing", "word", "many"] (spV C 3 (Pg.F_is_headed))) (d_simples : Df P w C.K mg base 14 "simples" ["saying"] (spV C 1 (Pg.F_simples))) (d_is_tuple_of : Df P w C.K mg base 1 "is_tuple_of" ["thing", "many"] (spV C 2 (Pg.F_is_tuple_of))) (d_is_blank : Df P w C.K mg base 2 "is_blank" ["holds"] (spV C 1 (Pg.F_is_blank))) (d_is_note_hold : Df P w C.K mg base 4 "is_note_hold" ["simple", "thing"] (spV C 2 (K07.F_is_note_hold))) : Df P w C.K mg base 15 "is_note_state" ["saying", "thing"] (spV C 2 (K07.F_is_note_state)) := by
  have sc := sc_is_note_state
  subst hw
  exact Dv.nf (Dv.ofC (k := 14) (g := K07.g_is_note_state) S hm hb hc sc_is_note_state rfl fun A outer s H E hr hf =>
      (qs_cons (q_if (qt_not (qt_val (q_df d_is_headed (hr.mono (by decide)) hf rfl (qa_cons (qv 1) (qa_cons q_str (qa_cons q_int qa_nil)))))) (qs_one (q_ret q_bl)) qs_nil)
      (qs_cons (q_set (i := 2) sc.nd rfl (Or.inl rfl) (q_df d_simples (hr.mono (by decide)) hf rfl (qa_cons (qv 0) qa_nil)))
      (qs_cons (q_if (qt_not (qt_val (q_df d_is_tuple_of (hr.mono (by decide)) hf rfl (qa_cons (q_ix rfl (qv 1) q_int (fun _ _ => rfl)) (qa_cons (q_callB call_len_seq vc_len rfl T.n_len PySem.boot_len (qa_cons (qv 2) qa_nil)) qa_nil))))) (qs_one (q_ret q_bl)) qs_nil)
      (qs_one (q_ret (q_and (q_allX (b0 := true) (own := [("simple", 3), ("hold", 4)]) (k := 13) (.inl ⟨rfl, rfl⟩) (hr.mono (by decide)) hf rfl sc.nd rfl T.n_all TB hP rfl (gsc_by (by decide +kernel)) (blkOk_by (own := [("simple", 3), ("hold", 4)]) (N := N_is_note_state) (sc := defScope s_is_note_state) (by decide +kernel)) (qi_zip2 rfl (pi_zip2 rfl T.n_zip (qa_cons (qv 2) (qa_cons (q_ix rfl (qv 1) q_int (fun _ _ => rfl)) qa_nil)))) (by decide) (fun _ _ _ _ _ _ _ hr hf => (qg_tup rfl rfl (qgs_cons (qg_name (i := 3) sc.nd rfl (Or.inl rfl)) (qgs_cons (qg_name (i := 4) sc.nd rfl (Or.inl rfl)) qgs_nil)))) (fun _ _ _ _ _ _ _ hr hf => qts_nil) (fun _ _ _ _ _ _ _ hr hf => (q_df d_is_note_hold (hr.mono (by decide)) hf rfl (qa_cons (qv 3) (qa_cons (qv 4) qa_nil))))) (q_one (q_not (q_df d_is_blank (hr.mono (by decide)) hf rfl (qa_cons (q_ix rfl (qv 1) q_int (fun _ _ => rfl)) qa_nil)))))))))))
abbrev s_is_state : Stmt := topS 19
abbrev N_is_state : List Str := [("saying" : Str), ("thing" : Str)]
theorem sc_is_state : FnScope N_is_state ["saying", "thing"] (defScope s_is_state) := ⟨rfl, rfl, rfl, by decide +kernel, rfl, by decide +kernel, by decide +kernel⟩
theorem ok_is_state (hw : C.w = w) (T : Bn mg) (S : Stands C.K mg "is_state" s_is_state ["saying", "thing"]) (d_is_note_state : Df P w C.K mg base 15 "is_note_state" ["saying", "thing"] (spV C 2 (K07.F_is_note_state))) (d_is_member_state : Df P w C.K mg base 15 "is_member_state" ["saying", "thing"] (spV C 2 (K07.F_is_member_state))) : Df P w C.K mg base 16 "is_state" ["saying", "thing"] (spV C 2 (K07.F_is_state)) := by
  have sc := sc_is_state
  subst hw
  exact Dv.nf (Dv.of (k := 15) (g := K07.g_is_state) S sc_is_state rfl fun f cdv A outer s H E hr hf =>
      (qs_one (q_ret (q_or (q_df d_is_member_state (hr.mono (by decide)) hf rfl (qa_cons (qv 0) (qa_cons (qv 1) qa_nil))) (q_one (q_df d_is_note_state (hr.mono (by decide)) hf rfl (qa_cons (qv 0) (qa_cons (qv 1) qa_nil))))))))
abbrev s__law_odd : Stmt := topS 33
abbrev N__law_odd : List Str := [("_law_hand_here" : Str), ("_law_given" : Str), ("_law_thing" : Str), ("_law_found" : Str), ("_law_turn" : Str)]
theorem sc__law_odd : FnScope N__law_odd ["_law_hand_here", "_law_given"] (defScope s__law_odd) := ⟨rfl, rfl, rfl, by decide +kernel, rfl, by decide +kernel, by decide +kernel⟩
theorem ok__law_odd (hw : C.w = w) (T : Bn mg) (S : Stands C.K mg "_law_odd" s__law_odd ["_law_hand_here", "_law_given"]) (d__law_of : Df P w C.K mg base 2 "_law_of" ["_law_hand_here", "_law_some"] (spV C 2 (Lx.F__law_of))) : Df P w C.K mg base 3 "_law_odd" ["_law_hand_here", "_law_given"] (spV C 2 (F__law_odd)) := by
  have sc := sc__law_odd
  subst hw
  exact Dv.nf (Dv.of (k := 2) (g := g__law_odd) S sc__law_odd rfl fun f cdv A outer s H E hr hf =>
      (qs_cons (q_set (i := 2) sc.nd rfl (Or.inl rfl) (q_lst (qa_cons q_non (qa_cons q_bl (qa_cons q_bl (qa_cons q_int (qa_cons (q_un un_neg vu_neg q_int) (qa_cons q_int (qa_cons q_str (qa_cons q_str (qa_cons q_str (qa_cons q_str (qa_cons (q_tup qa_nil) (qa_cons (q_lst qa_nil) (qa_cons (q_dict0 rfl) (qa_cons (q_tup (qa_cons q_bl (qa_cons q_int qa_nil))) (qa_cons (q_tup (qa_cons q_bl (qa_cons q_int qa_nil))) qa_nil)))))))))))))))))
      (qs_cons (q_if (qt_val (q_isi (T := "bool") (by simp) rfl rfl (pe_callB call_isiW rfl T.n_isinstance (by decide +kernel) (pa_cons (qv 1) (pa_cons (pe_bltn (v := .ty "bool") rfl T.n_bool (by decide +kernel) rfl) pa_nil))))) (qs_one (q_set (i := 2) sc.nd rfl (Or.inl rfl) (q_lst (qa_cons (q_not (qv 1)) (qa_cons (q_not (qv 1)) (qa_cons (q_not (qv 1)) (qa_cons (q_callTy call_int1 vc_int rfl T.n_int (by decide +kernel) (qa_cons (qv 1) qa_nil)) (qa_cons q_non (qa_cons (q_callTy call_strN vc_strN rfl T.n_str (by decide +kernel) (qa_cons (qv 1) qa_nil)) qa_nil))))))))) (qs_one (q_if (qt_val (q_isi (T := "int") (by simp) rfl rfl (pe_callB call_isiW rfl T.n_isinstance (by decide +kernel) (pa_cons (qv 1) (pa_cons (pe_bltn (v := .ty "int") rfl T.n_int (by decide +kernel) rfl) pa_nil))))) (qs_one (q_set (i := 2) sc.nd rfl (Or.inl rfl) (q_op op_cat vo_cat (qv 2) (q_lst (qa_cons (q_op op_addG vo_addG (qv 1) q_int) (qa_cons (q_op op_sub vo_sub (qv 1) q_int) (qa_cons (q_op op_addG vo_addG (qv 1) q_int) (qa_cons (q_op op_sub vo_sub (qv 1) q_int) (qa_cons (q_op op_sub vo_sub q_int (qv 1)) (qa_cons (q_op op_mul vo_mul (qv 1) q_int) (qa_cons (q_callTy call_strN vc_strN rfl T.n_str (by decide +kernel) (qa_cons (qv 1) qa_nil)) qa_nil))))))))))) qs_nil)))
      (qs_cons (q_set (i := 3) sc.nd rfl (Or.inl rfl) (q_df d__law_of (hr.mono (by decide)) hf rfl (qa_cons (qv 0) (qa_cons (qv 2) qa_nil))))
      (qs_cons (q_for PassesOwn.never rfl (qi_range1 rfl T.n_range (qa_cons (q_df d__law_of (hr.mono (by decide)) hf rfl (qa_cons (qv 0) (qa_cons (q_lst (qa_cons q_int (qa_cons q_int (qa_cons q_int (qa_cons q_int (qa_cons q_int (qa_cons q_int (qa_cons q_int qa_nil)))))))) qa_nil))) qa_nil)) (qg_name (i := 4) sc.nd rfl (Or.inl rfl)) (qs_one (q_set (i := 3) sc.nd rfl (Or.inl rfl) (q_df d__law_of (hr.mono (by decide)) hf rfl (qa_cons (qv 0) (qa_cons (q_lst (qa_cons (q_tup (qa_cons (qv 3) qa_nil)) (qa_cons (q_lst (qa_cons (qv 3) qa_nil)) (qa_cons (q_tup (qa_cons (qv 3) (qa_cons q_bl qa_nil))) qa_nil)))) qa_nil))))))
      (qs_one (q_ret (qv 3))))))))
abbrev s__law_bent : Stmt := topS 34
abbrev N__law_bent : List Str := [("_law_hand_here" : Str), ("_law_given" : Str), ("_law_deep" : Str), ("_law_way" : Str), ("_law_at" : Str), ("_law_other" : Str), ("_law_some" : Str)]
theorem sc__law_bent : FnScope N__law_bent ["_law_hand_here", "_law_given", "_law_deep"] (defScope s__law_bent) := ⟨rfl, rfl, rfl, by decide +kernel, rfl, by decide +kernel, by decide +kernel⟩
theorem ok__law_bent (hw : C.w = w) (T : Bn mg) (S : Stands C.K mg "_law_bent" s__law_bent ["_law_hand_here", "_law_given", "_law_deep"]) (d__law_take : Df P w C.K mg base 1 "_law_take" ["_law_hand_here", "_law_many"] (spV C 2 (Lx.F__law_take))) (d__law_odd : Df P w C.K mg base 3 "_law_odd" ["_law_hand_here", "_law_given"] (spV C 2 (F__law_odd))) (d__law_of : Df P w C.K mg base 2 "_law_of" ["_law_hand_here", "_law_some"] (spV C 2 (Lx.F__law_of))) : ∀ k, Df P w C.K mg base (4 + k) "_law_bent" ["_law_hand_here", "_law_given", "_law_deep"] (spV C 3 (F__law_bent k))
  | 0 => Dv.never S
  | k + 1 => by
    have ih := ok__law_bent hw T S d__law_take d__law_odd d__law_of k
    have sc := sc__law_bent
    subst hw
    exact Dv.nf (Dv.of (k := 4 + k) (g := g__law_bent (F__law_bent k)) S sc__law_bent rfl fun f cdv A outer s H E hr hf =>
      (qs_cons (q_set (i := 3) sc.nd rfl (Or.inl rfl) (q_df d__law_take (hr.mono (by omega)) hf rfl (qa_cons (qv 0) (qa_cons q_int qa_nil))))
      (qs_cons (q_if (PW.pt (qw_or (qt_not (qt_val (q_isi (T := "tuple") (by simp) rfl rfl (pe_callB call_isiW rfl T.n_isinstance (by decide +kernel) (pa_cons (qv 1) (pa_cons (pe_bltn (v := .ty "tuple") rfl T.n_tuple PyProof.Rows.boot_tuple rfl) pa_nil)))))) (qw_or1 (qt_cmp (op_eqE hr.units) vo_eqE (qv 1) (q_tup qa_nil) (nomark _))))) (qs_one (q_ret (q_df d__law_odd (hr.mono (by omega)) hf rfl (qa_cons (qv 0) (qa_cons (qv 1) qa_nil))))) qs_nil)
      (qs_cons (q_par (i := 4) (j := 5) rfl sc.nd rfl rfl (by decide) rfl rfl (qa_cons (q_df d__law_take (hr.mono (by omega)) hf rfl (qa_cons (qv 0) (qa_cons (q_callB call_len_seq vc_len rfl T.n_len PySem.boot_len (qa_cons (qv 1) qa_nil)) qa_nil))) (qa_cons (q_df d__law_take (hr.mono (by omega)) hf rfl (qa_cons (qv 0) (qa_cons (q_callB call_len_seq vc_len rfl T.n_len PySem.boot_len (qa_cons (qv 1) qa_nil)) qa_nil))) qa_nil)) rfl)
      (qs_cons (q_if (PW.pt (qw_and (qt_cmp op_lt vo_lt (qv 3) q_int (nomark _)) (qw_and1 (qt_cmp op_gt vo_gt (qv 2) q_int (nomark _))))) (qs_one (q_ret (q_op op_addG vo_addG (q_op op_addG vo_addG (q_slTv rfl (qv 1) qp_none (qp_e (qv 4))) (q_tup (qa_cons (q_df ih (hr.mono (by omega)) hf rfl (qa_cons (qv 0) (qa_cons (q_ix rfl (qv 1) (qv 4) (fun _ _ => rfl)) (qa_cons (q_op op_sub vo_sub (qv 2) q_int) qa_nil)))) qa_nil))) (q_slTv rfl (qv 1) (qp_e (q_op op_addG vo_addG (qv 4) q_int)) qp_none)))) qs_nil)
      (qs_cons (q_set (i := 6) sc.nd rfl (Or.inl rfl) (q_lst (qa_cons (q_op op_addG vo_addG (q_slTv rfl (qv 1) qp_none (qp_e (qv 4))) (q_slTv rfl (qv 1) (qp_e (q_op op_addG vo_addG (qv 4) q_int)) qp_none)) (qa_cons (q_op op_addG vo_addG (q_slTv rfl (qv 1) qp_none (qp_e (q_op op_addG vo_addG (qv 4) q_int))) (q_slTv rfl (qv 1) (qp_e (qv 4)) qp_none)) (qa_cons (q_rev rfl (qv 1)) (qa_cons (q_callTy call_list_of vc_list rfl T.n_list (by decide +kernel) (qa_cons (qv 1) qa_nil)) (qa_cons (q_ix rfl (qv 1) (qv 4) (fun _ _ => rfl)) qa_nil)))))))
      (qs_cons (q_set (i := 6) sc.nd rfl (Or.inl rfl) (q_op op_cat vo_cat (qv 6) (q_lst (qa_cons (q_op op_addG vo_addG (q_op op_addG vo_addG (q_slTv rfl (qv 1) qp_none (qp_e (qv 4))) (q_tup (qa_cons (q_df d__law_odd (hr.mono (by omega)) hf rfl (qa_cons (qv 0) (qa_cons (qv 4) qa_nil))) qa_nil))) (q_slTv rfl (qv 1) (qp_e (qv 4)) qp_none)) (qa_cons (q_op op_addG vo_addG (qv 1) (q_tup (qa_cons (q_df d__law_odd (hr.mono (by omega)) hf rfl (qa_cons (qv 0) (qa_cons (qv 4) qa_nil))) qa_nil))) qa_nil)))))
      (qs_one (q_ret (q_df d__law_of (hr.mono (by omega)) hf rfl (qa_cons (qv 0) (qa_cons (q_op op_cat vo_cat (qv 6) (q_lst (qa_cons (q_op op_addG vo_addG (q_op op_addG vo_addG (q_slTv rfl (qv 1) qp_none (qp_e (qv 4))) (q_tup (qa_cons (q_ix rfl (qv 1) (qv 5) (fun _ _ => rfl)) qa_nil))) (q_slTv rfl (qv 1) (qp_e (q_op op_addG vo_addG (qv 4) q_int)) qp_none)) qa_nil))) qa_nil))))))))))))
abbrev s__law_is_hold : Stmt := topS 31
abbrev N__law_is_hold : List Str := [("_law_simple_here" : Str), ("_law_given" : Str), ("_law_as_note" : Str), ("_law_size_here" : Str)]
theorem sc__law_is_hold : FnScope N__law_is_hold ["_law_simple_here", "_law_given", "_law_as_note"] (defScope s__law_is_hold) := ⟨rfl, rfl, rfl, by decide +kernel, rfl, by decide +kernel, by decide +kernel⟩
theorem ok__law_is_hold (hw : C.w = w) (T : Bn mg) (S : Stands C.K mg "_law_is_hold" s__law_is_hold ["_law_simple_here", "_law_given", "_law_as_note"]) (d__law_size : Df P w C.K mg base 1 "_law_size" ["_law_simple_here"] (spV C 1 (K07.F__law_size))) (d__law_so : Df P w C.K mg base 1 "_law_so" ["_law_simple_here", "_law_number"] (spV C 2 (K07.F__law_so))) : Df P w C.K mg base 2 "_law_is_hold" ["_law_simple_here", "_law_given", "_law_as_note"] (spV C 3 (F__law_is_hold)) := by
  have sc := sc__law_is_hold
  subst hw
  exact Dv.nf (Dv.of (k := 1) (g := g__law_is_hold) S sc__law_is_hold rfl fun f cdv A outer s H E hr hf =>
      (qs_cons (q_if (PW.pt (qw_or (qt_not (qt_val (q_isi (T := "tuple") (by simp) rfl rfl (pe_callB call_isiW rfl T.n_isinstance (by decide +kernel) (pa_cons (qv 1) (pa_cons (pe_bltn (v := .ty "tuple") rfl T.n_tuple PyProof.Rows.boot_tuple rfl) pa_nil)))))) (qw_or (qt_cmp (op_ne.or (op_neD hr.units)) vo_ne (q_callB call_len_seq vc_len rfl T.n_len PySem.boot_len (qa_cons (qv 1) qa_nil)) (q_op op_sub vo_sub q_int (q_callTy call_int1 vc_int rfl T.n_int (by decide +kernel) (qa_cons (qv 2) qa_nil))) (nomark _)) (qw_or1 (qt_not (qt_val (q_isi (T := "bool") (by simp) rfl rfl (pe_callB call_isiW rfl T.n_isinstance (by decide +kernel) (pa_cons (q_ix rfl (qv 1) q_int (fun _ _ => rfl)) (pa_cons (pe_bltn (v := .ty "bool") rfl T.n_bool (by decide +kernel) rfl) pa_nil)))))))))) (qs_one (q_ret q_bl)) qs_nil)
      (qs_cons (q_if (PW.pt (qw_or (qt_not (qt_val (q_isi (T := "int") (by simp) rfl rfl (pe_callB call_isiW rfl T.n_isinstance (by decide +kernel) (pa_cons (q_ix rfl (qv 1) q_int (fun _ _ => rfl)) (pa_cons (pe_bltn (v := .ty "int") rfl T.n_int (by decide +kernel) rfl) pa_nil)))))) (qw_or1 (qt_val (q_isi (T := "bool") (by simp) rfl rfl (pe_callB call_isiW rfl T.n_isinstance (by decide +kernel) (pa_cons (q_ix rfl (qv 1) q_int (fun _ _ => rfl)) (pa_cons (pe_bltn (v := .ty "bool") rfl T.n_bool (by decide +kernel) rfl) pa_nil)))))))) (qs_one (q_ret q_bl)) qs_nil)
      (qs_cons (q_set (i := 3) sc.nd rfl (Or.inl rfl) (q_op op_mul vo_mul (q_df d__law_size (hr.mono (by decide)) hf rfl (qa_cons (qv 0) qa_nil)) (q_ix rfl (q_lst (qa_cons q_int (qa_cons q_int qa_nil))) (q_callTy call_int1 vc_int rfl T.n_int (by decide +kernel) (qa_cons (q_and (qv 2) (q_one (q_cmp (op_eq.or (op_eqD hr.units)) vo_eq (q_ix rfl (qv 0) q_int (fun _ _ => rfl)) q_str (nomark _)))) qa_nil)) (fun _ _ => rfl))))
      (qs_cons (q_if (qt_not (qt_chain op_le vo_le op_le vo_le (q_ix rfl (q_lst (qa_cons (q_op op_sub vo_sub q_int (qv 3)) (qa_cons q_int qa_nil))) (q_callTy call_int1 vc_int rfl T.n_int (by decide +kernel) (qa_cons (q_cmp (op_eq.or (op_eqD hr.units)) vo_eq (q_ix rfl (qv 0) q_int (fun _ _ => rfl)) q_str (nomark _)) qa_nil)) (fun _ _ => rfl)) (q_ix rfl (qv 1) q_int (fun _ _ => rfl)) (qv 3))) (qs_one (q_ret q_bl)) qs_nil)
      (qs_one (q_ret (q_or (qv 2) (q_one (q_and (q_isi (T := "bool") (by simp) rfl rfl (pe_callB call_isiW rfl T.n_isinstance (by decide +kernel) (pa_cons (q_ix rfl (qv 1) q_int (fun _ _ => rfl)) (pa_cons (pe_bltn (v := .ty "bool") rfl T.n_bool (by decide +kernel) rfl) pa_nil)))) (q_one (q_or (q_not (q_ix rfl (qv 1) q_int (fun _ _ => rfl))) (q_one (q_cmp (op_eq.or (op_eqD hr.units)) vo_eq (q_ix rfl (qv 1) q_int (fun _ _ => rfl)) (q_df d__law_so (hr.mono (by decide)) hf rfl (qa_cons (qv 0) (qa_cons (q_ix rfl (qv 1) q_int (fun _ _ => rfl)) qa_nil))) (nomark _)))))))))))))))
abbrev s__law_is_state : Stmt := topS 32
abbrev N__law_is_state : List Str := [("_law_some" : Str), ("_law_sorts" : Str), ("_law_given" : Str), ("_law_as_note" : Str), ("_law_simple_here" : Str), ("_law_hold_here" : Str)]
theorem sc__law_is_state : FnScope N__law_is_state ["_law_some", "_law_sorts", "_law_given"] (defScope s__law_is_state) := ⟨rfl, rfl, rfl, by decide +kernel, rfl, by decide +kernel, by decide +kernel⟩
theorem ok__law_is_state (hw : C.w = w) (T : Bn mg) (S : Stands C.K mg "_law_is_state" s__law_is_state ["_law_some", "_law_sorts", "_law_given"]) (d__law_is_hold : Df P w C.K mg base 2 "_law_is_hold" ["_law_simple_here", "_law_given", "_law_as_note"] (spV C 3 (F__law_is_hold))) : Df P w C.K mg base 3 "_law_is_state" ["_law_some", "_law_sorts", "_law_given"] (spV C 3 (F__law_is_state)) := by
  have sc := sc__law_is_state
  subst hw
  exact Dv.nf (Dv.of (k := 2) (g := g__law_is_state) S sc__law_is_state rfl fun f cdv A outer s H E hr hf =>
      (qs_cons (q_if (PW.pt (qw_or (qt_not (qt_val (q_isi (T := "tuple") (by simp) rfl rfl (pe_callB call_isiW rfl T.n_isinstance (by decide +kernel) (pa_cons (qv 2) (pa_cons (pe_bltn (v := .ty "tuple") rfl T.n_tuple PyProof.Rows.boot_tuple rfl) pa_nil)))))) (qw_or (qt_cmp (op_eqE hr.units) vo_eqE (qv 2) (q_tup qa_nil) (nomark _)) (qw_or1 (qt_not (qt_val (q_isi (T := "str") (by simp) rfl rfl (pe_callB call_isiW rfl T.n_isinstance (by decide +kernel) (pa_cons (q_ix rfl (qv 2) q_int (fun _ _ => rfl)) (pa_cons (pe_bltn (v := .ty "str") rfl T.n_str (by decide +kernel) rfl) pa_nil)))))))))) (qs_one (q_ret q_bl)) qs_nil)
      (qs_cons (q_set (i := 3) sc.nd rfl (Or.inr rfl) (q_cmp (op_eq.or (op_eqD hr.units)) vo_eq (q_ix rfl (qv 2) q_int (fun _ _ => rfl)) q_str (nomark _)))
      (qs_cons (q_if (PW.pt (qw_or (qt_cmp op_notIn_seq vo_notInT (q_ix rfl (qv 2) q_int (fun _ _ => rfl)) (q_tup (qa_cons q_str (qa_cons q_str qa_nil))) rfl) (qw_or (qt_cmp (op_ne.or (op_neD hr.units)) vo_ne (q_callB call_len_seq vc_len rfl T.n_len PySem.boot_len (qa_cons (qv 2) qa_nil)) (q_op op_sub vo_sub q_int (q_callTy call_int1 vc_int rfl T.n_int (by decide +kernel) (qa_cons (qv 3) qa_nil))) (nomark _)) (qw_or1 (qt_not (qt_val (q_isi (T := "tuple") (by simp) rfl rfl (pe_callB call_isiW rfl T.n_isinstance (by decide +kernel) (pa_cons (q_ix rfl (qv 2) (q_un un_neg vu_neg q_int) (fun _ _ => rfl)) (pa_cons (pe_bltn (v := .ty "tuple") rfl T.n_tuple PyProof.Rows.boot_tuple rfl) pa_nil)))))))))) (qs_one (q_ret q_bl)) qs_nil)
      (qs_cons (q_if (qt_cmp (op_ne.or (op_neD hr.units)) vo_ne (q_callB call_len_seq vc_len rfl T.n_len PySem.boot_len (qa_cons (q_ix rfl (qv 2) (q_un un_neg vu_neg q_int) (fun _ _ => rfl)) qa_nil)) (q_callB call_len_seq vc_len rfl T.n_len PySem.boot_len (qa_cons (qv 0) qa_nil)) (nomark _)) (qs_one (q_ret q_bl)) qs_nil)
      (qs_cons (q_if (qt_not (qt_val (q_callB (cr_all rfl) vc_all rfl T.n_all (by decide +kernel) (qa_cons (q_lc (own := [("_law_simple_here", 4), ("_law_hold_here", 5)]) rfl sc.nd (qi_zip2 rfl (pi_zip2 rfl T.n_zip (qa_cons (qv 0) (qa_cons (q_ix rfl (qv 2) (q_un un_neg vu_neg q_int) (fun _ _ => rfl)) qa_nil)))) (blkOk_by (own := [("_law_simple_here", 4), ("_law_hold_here", 5)]) (N := N__law_is_state) (sc := defScope s__law_is_state) (by decide +kernel)) (by decide) (fun _ _ _ _ _ => (qg_tup rfl rfl (qgs_cons (qg_name (i := 4) sc.nd rfl (Or.inl rfl)) (qgs_cons (qg_name (i := 5) sc.nd rfl (Or.inl rfl)) qgs_nil)))) (fun _ _ _ _ _ => qts_nil) (fun _ _ _ _ _ => (q_df d__law_is_hold (hr.mono (by decide)) hf rfl (qa_cons (qv 4) (qa_cons (qv 5) (qa_cons (qv 3) qa_nil)))))) qa_nil)))) (qs_one (q_ret q_bl)) qs_nil)
      (qs_cons (q_if (qt_val (qv 3)) (qs_one (q_ret (q_cmp (op_neD hr.units) vo_neL (q_lc (own := [("_law_hold_here", 5)]) rfl sc.nd (qi_seq rfl (q_ix rfl (qv 2) q_int (fun _ _ => rfl))) (blkOk_by (own := [("_law_hold_here", 5)]) (N := N__law_is_state) (sc := defScope s__law_is_state) (by decide +kernel)) (by decide) (fun _ _ _ _ _ => (qg_name (i := 5) sc.nd rfl (Or.inl rfl))) (fun _ _ _ _ _ => (qts_one (qt_cmp (op_ne.or (op_neD hr.units)) vo_ne (qv 5) (q_tup (qa_cons q_bl (qa_cons q_int qa_nil))) (nomark _)))) (fun _ _ _ _ _ => (qv 5))) (q_lst qa_nil) (nomark _)))) qs_nil)
      (qs_one (q_ret (q_and (q_isi (T := "int") (by simp) rfl rfl (pe_callB call_isiW rfl T.n_isinstance (by decide +kernel) (pa_cons (q_ix rfl (qv 2) q_int (fun _ _ => rfl)) (pa_cons (pe_bltn (v := .ty "int") rfl T.n_int (by decide +kernel) rfl) pa_nil)))) (q_and (q_not (q_isi (T := "bool") (by simp) rfl rfl (pe_callB call_isiW rfl T.n_isinstance (by decide +kernel) (pa_cons (q_ix rfl (qv 2) q_int (fun _ _ => rfl)) (pa_cons (pe_bltn (v := .ty "bool") rfl T.n_bool (by decide +kernel) rfl) pa_nil))))) (q_one (q_chain op_le vo_le op_lt vo_lt q_int (q_ix rfl (qv 2) q_int (fun _ _ => rfl)) (qv 1))))))))))))))
abbrev s_law : Stmt := topS 35
abbrev N_law : List Str := [("_law_script" : Str), ("_law_k" : Str), ("_law_hand_here" : Str), ("_law_sorts" : Str), ("_law_many" : Str), ("_law_turn" : Str), ("_law_saying_here" : Str), ("_law_some" : Str), ("_law_seen" : Str), ("_law_good" : Str), ("_law_again" : Str), ("_law_bent_here" : Str), ("_law_given" : Str), ("_law_kept" : Str), ("_law_told" : Str)]
theorem sc_law : FnScope N_law ["_law_script"] (defScope s_law) := ⟨rfl, rfl, rfl, by decide +kernel, rfl, by decide +kernel, by decide +kernel⟩
theorem ok_law (hw : C.w = w) (T : Bn mg) {f0 : Addr} {fd0 : FuncData} (S : Fun C.K "law" "law" s_law f0 fd0) (d__law_hand : Df P w C.K mg base 1 "_law_hand" ["_law_script", "_law_k"] (spV C 2 (Lx.F__law_hand C.ns))) (d__law_take : Df P w C.K mg base 1 "_law_take" ["_law_hand_here", "_law_many"] (spV C 2 (Lx.F__law_take))) (d__law_simple : Df P w C.K mg base 3 "_law_simple" ["_law_hand_here", "_law_sorts"] (spV C 2 (Lx.F__law_simple))) (d__law_saying : Df P w C.K mg base 10 "_law_saying" ["_law_hand_here", "_law_pool", "_law_deep", "_law_pot"] (spV C 4 (Lx.F__law_saying 8))) (d_simples : Df P w C.K mg base 14 "simples" ["saying"] (spV C 1 (Pg.F_simples))) (d__law_state : Df P w C.K mg base 4 "_law_state" ["_law_hand_here", "_law_some", "_law_sorts"] (spV C 3 (F__law_state))) (d_is_state : Df P w C.K mg base 16 "is_state" ["saying", "thing"] (spV C 2 (K07.F_is_state))) (d__law_bent : Df P w C.K mg base 10 "_law_bent" ["_law_hand_here", "_law_given", "_law_deep"] (spV C 3 (F__law_bent 6))) (d__law_is_state : Df P w C.K mg base 3 "_law_is_state" ["_law_some", "_law_sorts", "_law_given"] (spV C 3 (F__law_is_state))) : FnG P w C.K mg base 17 f0 fd0 ["_law_script"] (spV C 1 (F_law C.ns)) := by
  have sc := sc_law
  subst hw
  exact Dv.fn (k := 16) (g := g_law C.ns) S sc_law rfl fun f cdv A outer s H E hr hf =>
      (qs_cons (q_for PassesOwn.never rfl (qi_range1 rfl T.n_range (qa_cons (q_op op_add vo_add q_int (q_callB (call_min2 rfl) vc_min2 rfl T.n_min (by decide +kernel) (qa_cons q_int (qa_cons (q_callB call_len_seq vc_lenS rfl T.n_len PySem.boot_len (qa_cons (qv 0) qa_nil)) qa_nil)))) qa_nil)) (qg_name (i := 1) sc.nd rfl (Or.inl rfl)) (qs_cons (q_set (i := 2) sc.nd rfl (Or.inr rfl) (q_df d__law_hand (hr.mono (by decide)) hf rfl (qa_cons (qv 0) (qa_cons (qv 1) qa_nil))))
      (qs_cons (q_asg (q_tup (qa_cons (q_op op_add vo_add q_int (q_df d__law_take (hr.mono (by decide)) hf rfl (qa_cons (qv 2) (qa_cons q_int qa_nil)))) (qa_cons (q_op op_add vo_add q_int (q_df d__law_take (hr.mono (by decide)) hf rfl (qa_cons (qv 2) (qa_cons q_int qa_nil)))) qa_nil))) (qg_tup rfl rfl (qgs_cons (qg_name (i := 3) sc.nd rfl (Or.inr rfl)) (qgs_cons (qg_name (i := 4) sc.nd rfl (Or.inl rfl)) qgs_nil))))
      (qs_cons (q_set (i := 6) sc.nd rfl (Or.inl rfl) (q_df d__law_saying (hr.mono (by decide)) hf rfl (qa_cons (qv 2) (qa_cons (q_lc (own := [("_law_turn", 5)]) rfl sc.nd (qi_range1 rfl T.n_range (qa_cons (qv 4) qa_nil)) (blkOk_by (own := [("_law_turn", 5)]) (N := N_law) (sc := defScope s_law) (by decide +kernel)) (by decide) (fun _ _ _ _ _ => (qg_name (i := 5) sc.nd rfl (Or.inl rfl))) (fun _ _ _ _ _ => qts_nil) (fun _ _ _ _ _ => (q_df d__law_simple (hr.mono (by decide)) hf rfl (qa_cons (qv 2) (qa_cons (qv 3) qa_nil))))) (qa_cons q_int (qa_cons (q_pot (pps_cons q_str q_int pps_nil) rfl rfl (by simp) (by decide)) qa_nil))))))
      (qs_cons (q_set (i := 7) sc.nd rfl (Or.inl rfl) (q_df d_simples (hr.mono (by decide)) hf rfl (qa_cons (qv 6) qa_nil)))
      (qs_cons (q_set (i := 8) sc.nd rfl (Or.inl rfl) (q_lst (qa_cons (q_tup (qa_cons q_str (qa_cons (q_op (op_once.or op_repT) vo_repT (q_tup (qa_cons (q_tup (qa_cons q_bl (qa_cons q_int qa_nil))) qa_nil)) (q_callB call_len_seq vc_len rfl T.n_len PySem.boot_len (qa_cons (qv 7) qa_nil))) qa_nil))) (qa_cons (q_tup (qa_cons q_str (qa_cons q_int (qa_cons (q_tup qa_nil) qa_nil)))) (qa_cons (q_tup (qa_cons q_str (qa_cons (q_tup qa_nil) qa_nil))) (qa_cons q_non (qa_cons q_str qa_nil)))))))
      (qs_cons (q_for PassesOwn.never rfl (qi_range1 rfl T.n_range (qa_cons q_int qa_nil)) (qg_name (i := 5) sc.nd rfl (Or.inl rfl)) (qs_cons (q_set (i := 9) sc.nd rfl (Or.inl rfl) (q_df d__law_state (hr.mono (by decide)) hf rfl (qa_cons (qv 2) (qa_cons (qv 7) (qa_cons (qv 3) qa_nil)))))
      (qs_cons (q_if (qt_cmp op_isnot_bl vo_notB (q_df d_is_state (hr.mono (by decide)) hf rfl (qa_cons (qv 6) (qa_cons (qv 9) qa_nil))) q_bl (nomark _)) (qs_one (q_ret q_bl)) qs_nil)
      (qs_cons (q_for PassesOwn.never rfl (qi_range1 rfl T.n_range (qa_cons q_int qa_nil)) (qg_name (i := 10) sc.nd rfl (Or.inl rfl)) (qs_cons (q_set (i := 11) sc.nd rfl (Or.inl rfl) (q_df d__law_bent (hr.mono (by decide)) hf rfl (qa_cons (qv 2) (qa_cons (qv 9) (qa_cons q_int qa_nil)))))
      (qs_one (q_expr (q_app rfl (pe_bm PySem.F.plainAttrs_list PySem.F.slot_list_append PySem.F.type_list_append mt_append (qv 8) (pa_cons (q_ifE (qt_cmp (op_eq.or (op_eqD hr.units)) vo_eq (q_df d__law_take (hr.mono (by decide)) hf rfl (qa_cons (qv 2) (qa_cons q_int qa_nil))) q_int (nomark _)) (q_df d__law_bent (hr.mono (by decide)) hf rfl (qa_cons (qv 2) (qa_cons (qv 11) (qa_cons q_int qa_nil)))) (qv 11)) pa_nil)))))))
      (qs_one (q_expr (q_app rfl (pe_bm PySem.F.plainAttrs_list PySem.F.slot_list_append PySem.F.type_list_append mt_append (qv 8) (pa_cons (q_ifE (qt_cmp (op_eq.or (op_eqD hr.units)) vo_eq (q_ix rfl (qv 9) q_int (fun _ _ => rfl)) q_str (nomark _)) (q_tup (qa_cons q_str (qa_cons (q_ix rfl (qv 9) (q_un un_neg vu_neg q_int) (fun _ _ => rfl)) qa_nil))) (q_tup (qa_cons q_str (qa_cons q_int (qa_cons (q_ix rfl (qv 9) (q_un un_neg vu_neg q_int) (fun _ _ => rfl)) qa_nil))))) pa_nil)))))))))
      (qs_one (q_for PassesOwn.never rfl (qi_seq rfl (q_op op_cat vo_cat (qv 8) (q_lst (qa_cons (q_df d__law_state (hr.mono (by decide)) hf rfl (qa_cons (qv 2) (qa_cons (q_tup (qa_cons (q_tup (qa_cons q_str (qa_cons (q_op (op_once.or op_repT) vo_repT (q_tup (qa_cons q_int qa_nil)) (qv 3)) (qa_cons q_int qa_nil)))) qa_nil)) (qa_cons (qv 3) qa_nil)))) qa_nil)))) (qg_name (i := 12) sc.nd rfl (Or.inl rfl)) (qs_cons (q_par (i := 13) (j := 14) rfl sc.nd rfl rfl (by decide) rfl rfl (qa_cons (q_callB (call_repW hf hr.units) vc_repW rfl T.n_repr (by decide +kernel) (qa_cons (qv 12) qa_nil)) (qa_cons (q_df d_is_state (hr.mono (by decide)) hf rfl (qa_cons (qv 6) (qa_cons (qv 12) qa_nil))) qa_nil)) rfl)
      (qs_one (q_if (PW.pt (qw_or (qt_not (qt_val (q_isi (T := "bool") (by simp) rfl rfl (pe_callB call_isiW rfl T.n_isinstance (by decide +kernel) (pa_cons (qv 14) (pa_cons (pe_bltn (v := .ty "bool") rfl T.n_bool (by decide +kernel) rfl) pa_nil)))))) (qw_or (qt_cmp (op_ne.or (op_neD hr.units)) vo_ne (qv 14) (q_df d__law_is_state (hr.mono (by decide)) hf rfl (qa_cons (qv 7) (qa_cons (qv 3) (qa_cons (qv 12) qa_nil)))) (nomark _)) (qw_or1 (qt_cmp (op_ne.or (op_neD hr.units)) vo_ne (q_callB (call_repW hf hr.units) vc_repW rfl T.n_repr (by decide +kernel) (qa_cons (qv 12) qa_nil)) (qv 13) (nomark _)))))) (qs_one (q_ret q_bl)) qs_nil))))))))))))
      (qs_one (q_ret q_bl)))
end
end K06
set_option maxHeartbeats 4000000
namespace K06
open PySem PySem.Spec PyProof.Rows L2 Sa Va
/-- what the top has written of a def -/
structure Wr (K : PySem.W.Frag) (x : Str) (st : Stmt) (f : Addr) (fd : FuncData) : Prop where
  ns : PySem.W.nsIn K mainGlobals x = some (some (.ref f))
  fn : Fun K x x st f fd
section
variable {l : PySem.W.OpenLaw} {w : World} {K : PySem.W.Frag} {h : Heap} {mg : Str -> Option Value}
theorem Wr.stands {x : Str} {st : Stmt} {f : Addr} {fd : FuncData} {ps : List Str} (W : Wr K x st f fd) (X : K.In h) (G : h.Ns mainGlobals mg)
    (hb : ∀ (kV doc pm : Value) (an : Option Addr) (cdv ct : Value) (us : List Value), us.length = ps.length -> bindArgs (PySem.W.fnOf x x (defArgs st) (defBody st) (defScope st) .none kV doc pm an cdv ct) ⟨us, []⟩ = pure (ps.zip us)) :
    Stands K mg x st ps := ⟨f, fd, W.fn, PySem.W.mg_of X G W.ns, W.fn.binds hb⟩
/-- a def's code table, empty as the law begins -/
theorem tab_of {q : Program} {x : Str} {st : Stmt} {f c Tp : Addr} {fd : FuncData} {eC : Value} {dC : Option Addr} {vC : Array Value} {sC : Array (Option Value)} (X : K.In h) (G : h.Ns mainGlobals mg) (tabs : TabsOf q mg h) (W : Wr K x st f fd) (hc : fd.code = .ref c)
    (lC : K.lookup c = some ⟨eC, dC, .fields vC, sC⟩) (v11 : vC[11]? = some (.ref Tp)) (hrec : ((recsOf q).any fun e => e.name == x) = true) : h.get? Tp = some noTab /\ PySem.W.CodeHd h c Tp := by
  obtain ⟨dL, hm, hn1⟩ := List.any_eq_true.mp hrec
  have hn2 : dL.name = x := beq_iff_eq.mp hn1
  obtain ⟨a', o', fd', c', P', h1, h2, h3, h4, h5, h6⟩ := tabs dL hm
  rw [hn2, PySem.W.mg_of X G W.ns] at h1
  cases h1
  obtain ⟨oc, od, kV, doc, pm, an, cdv, ct, osl, rfl, lk, hcd⟩ := W.fn.ex
  rw [X _ _ lk] at h2
  cases h2
  cases h3
  rw [hc] at h4
  cases h4
  have h7 := PySem.W.CodeHd.of h5 h6
  obtain ⟨⟨o1, v1, e1, _, e3, e4⟩, hP⟩ := h6
  rw [X _ _ lC] at e1
  cases e1
  cases e3
  rw [v11] at e4
  cases e4
  exact ⟨hP, h7⟩
theorem all_mk {q : Program} {fa f22 f23 f26 f3 f4 f6 f7 f9 f24 f27 f28 f29 f30 f25 f1 f2 f11 f14 f12 f15 f8 f17 f20 f16 f18 f19 f33 f34 f31 f32 f35 c11 T11 c17 T17 c20 T20 c18 T18 : Addr} {fd22 fd23 fd26 fd3 fd4 fd6 fd7 fd9 fd24 fd27 fd28 fd29 fd30 fd25 fd1 fd2 fd11 fd14 fd12 fd15 fd8 fd17 fd20 fd16 fd18 fd19 fd33 fd34 fd31 fd32 fd35 : FuncData}
    (X : K.In h) (G : h.Ns mainGlobals mg) (hfa : mg "law" = some (.ref fa)) (tabs : TabsOf q mg h) (T : Bn mg)
    (w22 : Wr K "_law_hand" s__law_hand f22 fd22)
    (w23 : Wr K "_law_take" s__law_take f23 fd23)
    (w26 : Wr K "_law_saying" s__law_saying f26 fd26)
    (w3 : Wr K "is_tuple_of" s_is_tuple_of f3 fd3)
    (w4 : Wr K "is_headed" s_is_headed f4 fd4)
    (w6 : Wr K "is_joined" s_is_joined f6 fd6)
    (w7 : Wr K "all_simples" s_all_simples f7 fd7)
    (w9 : Wr K "simples" s_simples f9 fd9)
    (w24 : Wr K "_law_of" s__law_of f24 fd24)
    (w27 : Wr K "_law_size" s__law_size f27 fd27)
    (w28 : Wr K "_law_so" s__law_so f28 fd28)
    (w29 : Wr K "_law_hold" s__law_hold f29 fd29)
    (w30 : Wr K "_law_state" s__law_state f30 fd30)
    (w25 : Wr K "_law_simple" s__law_simple f25 fd25)
    (w1 : Wr K "is_whole" s_is_whole f1 fd1)
    (w2 : Wr K "is_whole_within" s_is_whole_within f2 fd2)
    (w11 : Wr K "size_of" s_size_of f11 fd11) (hc11 : fd11.code = .ref c11)
    (w14 : Wr K "is_borne" s_is_borne f14 fd14)
    (w12 : Wr K "says" s_says f12 fd12)
    (w15 : Wr K "is_member_hold" s_is_member_hold f15 fd15)
    (w8 : Wr K "sorts_of" s_sorts_of f8 fd8)
    (w17 : Wr K "is_member_state" s_is_member_state f17 fd17) (hc17 : fd17.code = .ref c17)
    (w20 : Wr K "is_blank" s_is_blank f20 fd20) (hc20 : fd20.code = .ref c20)
    (w16 : Wr K "is_note_hold" s_is_note_hold f16 fd16)
    (w18 : Wr K "is_note_state" s_is_note_state f18 fd18) (hc18 : fd18.code = .ref c18)
    (w19 : Wr K "is_state" s_is_state f19 fd19)
    (w33 : Wr K "_law_odd" s__law_odd f33 fd33)
    (w34 : Wr K "_law_bent" s__law_bent f34 fd34)
    (w31 : Wr K "_law_is_hold" s__law_is_hold f31 fd31)
    (w32 : Wr K "_law_is_state" s__law_is_state f32 fd32)
    (w35 : Wr K "law" s_law f35 fd35)
    {eC11 : Value} {dC11 : Option Addr} {vC11 : Array Value} {sC11 : Array (Option Value)} (lC11 : K.lookup c11 = some ⟨eC11, dC11, .fields vC11, sC11⟩) (v11 : vC11[11]? = some (.ref T11)) (nT11 : K.lookup T11 = none) (rec11 : ((recsOf q).any fun e => e.name == ("size_of" : Str)) = true)
    {eC17 : Value} {dC17 : Option Addr} {vC17 : Array Value} {sC17 : Array (Option Value)} (lC17 : K.lookup c17 = some ⟨eC17, dC17, .fields vC17, sC17⟩) (v17 : vC17[11]? = some (.ref T17)) (nT17 : K.lookup T17 = none) (rec17 : ((recsOf q).any fun e => e.name == ("is_member_state" : Str)) = true)
    {eC20 : Value} {dC20 : Option Addr} {vC20 : Array Value} {sC20 : Array (Option Value)} (lC20 : K.lookup c20 = some ⟨eC20, dC20, .fields vC20, sC20⟩) (v20 : vC20[11]? = some (.ref T20)) (nT20 : K.lookup T20 = none) (rec20 : ((recsOf q).any fun e => e.name == ("is_blank" : Str)) = true)
    {eC18 : Value} {dC18 : Option Addr} {vC18 : Array Value} {sC18 : Array (Option Value)} (lC18 : K.lookup c18 = some ⟨eC18, dC18, .fields vC18, sC18⟩) (v18 : vC18[11]? = some (.ref T18)) (nT18 : K.lookup T18 = none) (rec18 : ((recsOf q).any fun e => e.name == ("is_note_state" : Str)) = true)
    : LawSa l w K 17 63 "_law_script" mg fa h := by
  have e := hfa.symm.trans (PySem.W.mg_of X G w35.ns)
  cases e
  obtain ⟨hT11, hd11⟩ := tab_of X G tabs w11 hc11 lC11 v11 rec11
  obtain ⟨hT17, hd17⟩ := tab_of X G tabs w17 hc17 lC17 v17 rec17
  obtain ⟨hT20, hd20⟩ := tab_of X G tabs w20 hc20 lC20 v20 rec20
  obtain ⟨hT18, hd18⟩ := tab_of X G tabs w18 hc18 lC18 v18 rec18
  refine ⟨fd35, [(c11, T11), (c17, T17), (c20, T20), (c18, T18)], spLaw K w [T11, T17, T20, T18] [] F_law, fun p hp => ?_, fun p hp => ?_, fun p hp => ?_, fun s u => ?_, fun H a ns hl hb hH hS => ?_, fun base KB GB TB => ?_⟩
  · simp only [List.mem_cons, List.not_mem_nil, or_false] at hp
    rcases hp with rfl | rfl | rfl | rfl
    · exact hT11
    · exact hT17
    · exact hT20
    · exact hT18
  · simp only [List.mem_cons, List.not_mem_nil, or_false] at hp
    rcases hp with rfl | rfl | rfl | rfl
    · exact nT11
    · exact nT17
    · exact nT20
    · exact nT18
  · simp only [List.mem_cons, List.not_mem_nil, or_false] at hp
    rcases hp with rfl | rfl | rfl | rfl
    · exact hd11
    · exact hd17
    · exact hd20
    · exact hd18
  · obtain ⟨oc, od, kV, doc, pm, an, cdv, ct, osl, rfl, lk, hcd⟩ := w35.fn.ex
    exact .of_eq rfl
  · obtain ⟨M2, e⟩ := law_true ns
    refine law_start (fun P hP => ?_) (fun p hp => absurd hp (by simp)) hS e
    simp only [List.mem_cons, List.not_mem_nil, or_false] at hP
    rcases hP with rfl | rfl | rfl | rfl
    · exact ⟨#[], hH _ List.mem_cons_self, trivial⟩
    · exact ⟨#[], hH _ (List.mem_cons_of_mem _ List.mem_cons_self), trivial⟩
    · exact ⟨#[], hH _ (List.mem_cons_of_mem _ (List.mem_cons_of_mem _ List.mem_cons_self)), trivial⟩
    · exact ⟨#[], hH _ (List.mem_cons_of_mem _ (List.mem_cons_of_mem _ (List.mem_cons_of_mem _ List.mem_cons_self))), trivial⟩
  · have TB11 := TB _ List.mem_cons_self
    have TB17 := TB _ (List.mem_cons_of_mem _ List.mem_cons_self)
    have TB20 := TB _ (List.mem_cons_of_mem _ (List.mem_cons_of_mem _ List.mem_cons_self))
    have TB18 := TB _ (List.mem_cons_of_mem _ (List.mem_cons_of_mem _ (List.mem_cons_of_mem _ List.mem_cons_self)))
    refine law_fn fun a ns => ?_
    generalize hC : (⟨K, w, [T11, T17, T20, T18], a, ns, [], none⟩ : Ck) = C
    have hK : C.K = K := by rw [<- hC]
    have hw : C.w = w := by rw [<- hC]
    have hTs : C.T = [T11, T17, T20, T18] := by rw [<- hC]
    have hns : C.ns = ns := by rw [<- hC]
    have hTL : C.TL = [] := by rw [<- hC]
    have hfa : C.fa = none := by rw [<- hC]
    subst hK hns
    have d22 := ok__law_hand (P := l.prog) (base := base) hw T (w22.stands X G fun _ _ _ _ _ _ us hl => match us, hl with | [_, _], _ => rfl)
    have d23 := ok__law_take (P := l.prog) (base := base) hw T (w23.stands X G fun _ _ _ _ _ _ us hl => match us, hl with | [_, _], _ => rfl)
    have d26 := ok__law_saying (P := l.prog) (base := base) hw T (w26.stands X G fun _ _ _ _ _ _ us hl => match us, hl with | [_, _, _, _], _ => rfl) d23 8
    have d3 := ok_is_tuple_of (P := l.prog) (base := base) hw T (w3.stands X G fun _ _ _ _ _ _ us hl => match us, hl with | [_, _], _ => rfl)
    have d4 := ok_is_headed (P := l.prog) (base := base) hw T (w4.stands X G fun _ _ _ _ _ _ us hl => match us, hl with | [_, _, _], _ => rfl) d3
    have d6 := ok_is_joined (P := l.prog) (base := base) hw T (w6.stands X G fun _ _ _ _ _ _ us hl => match us, hl with | [_], _ => rfl) d4
    have d7 := ok_all_simples (P := l.prog) (base := base) hw T (w7.stands X G fun _ _ _ _ _ _ us hl => match us, hl with | [_], _ => rfl) d6 9
    have d9 := ok_simples (P := l.prog) (base := base) hw T (w9.stands X G fun _ _ _ _ _ _ us hl => match us, hl with | [_], _ => rfl) d7
    have d24 := ok__law_of (P := l.prog) (base := base) hw T (w24.stands X G fun _ _ _ _ _ _ us hl => match us, hl with | [_, _], _ => rfl) d23
    have d27 := ok__law_size (P := l.prog) (base := base) hw T (w27.stands X G fun _ _ _ _ _ _ us hl => match us, hl with | [_], _ => rfl)
    have d28 := ok__law_so (P := l.prog) (base := base) hw T (w28.stands X G fun _ _ _ _ _ _ us hl => match us, hl with | [_, _], _ => rfl)
    have d29 := ok__law_hold (P := l.prog) (base := base) hw T (w29.stands X G fun _ _ _ _ _ _ us hl => match us, hl with | [_, _, _], _ => rfl) d27 d23 d24 d28
    have d30 := ok__law_state (P := l.prog) (base := base) hw T (w30.stands X G fun _ _ _ _ _ _ us hl => match us, hl with | [_, _, _], _ => rfl) d23 d29
    have d25 := ok__law_simple (P := l.prog) (base := base) hw T (w25.stands X G fun _ _ _ _ _ _ us hl => match us, hl with | [_, _], _ => rfl) d23 d24
    have d1 := ok_is_whole (P := l.prog) (base := base) hw T (w1.stands X G fun _ _ _ _ _ _ us hl => match us, hl with | [_], _ => rfl)
    have d2 := ok_is_whole_within (P := l.prog) (base := base) hw T (w2.stands X G fun _ _ _ _ _ _ us hl => match us, hl with | [_, _, _], _ => rfl) d1
    have d11 := ok_size_of (P := l.prog) (base := base) hw T w11.fn (PySem.W.mg_of X G w11.ns) (w11.fn.binds fun _ _ _ _ _ _ us hl => match us, hl with | [_], _ => rfl) hc11 TB11 (by rw [hTs]; exact List.mem_cons_self)
    have d14 := ok_is_borne (P := l.prog) (base := base) hw T (w14.stands X G fun _ _ _ _ _ _ us hl => match us, hl with | [_, _, _], _ => rfl) d11 d2
    have d12 := ok_says (P := l.prog) (base := base) hw T (w12.stands X G fun _ _ _ _ _ _ us hl => match us, hl with | [_, _], _ => rfl)
    have d15 := ok_is_member_hold (P := l.prog) (base := base) hw T (w15.stands X G fun _ _ _ _ _ _ us hl => match us, hl with | [_, _], _ => rfl) d3 d14 d12
    have d8 := ok_sorts_of (P := l.prog) (base := base) hw T (w8.stands X G fun _ _ _ _ _ _ us hl => match us, hl with | [_], _ => rfl) d6
    have d17 := ok_is_member_state (P := l.prog) (base := base) hw T w17.fn (PySem.W.mg_of X G w17.ns) (w17.fn.binds fun _ _ _ _ _ _ us hl => match us, hl with | [_, _], _ => rfl) hc17 TB17 (by rw [hTs]; exact (List.mem_cons_of_mem _ List.mem_cons_self)) d8 d2 d4 d9 d3 d15
    have d20 := ok_is_blank (P := l.prog) (base := base) hw T w20.fn (PySem.W.mg_of X G w20.ns) (w20.fn.binds fun _ _ _ _ _ _ us hl => match us, hl with | [_], _ => rfl) hc20 TB20 (by rw [hTs]; exact (List.mem_cons_of_mem _ (List.mem_cons_of_mem _ List.mem_cons_self)))
    have d16 := ok_is_note_hold (P := l.prog) (base := base) hw T (w16.stands X G fun _ _ _ _ _ _ us hl => match us, hl with | [_, _], _ => rfl) d14 d3
    have d18 := ok_is_note_state (P := l.prog) (base := base) hw T w18.fn (PySem.W.mg_of X G w18.ns) (w18.fn.binds fun _ _ _ _ _ _ us hl => match us, hl with | [_, _], _ => rfl) hc18 TB18 (by rw [hTs]; exact (List.mem_cons_of_mem _ (List.mem_cons_of_mem _ (List.mem_cons_of_mem _ List.mem_cons_self)))) d4 d9 d3 d20 d16
    have d19 := ok_is_state (P := l.prog) (base := base) hw T (w19.stands X G fun _ _ _ _ _ _ us hl => match us, hl with | [_, _], _ => rfl) d18 d17
    have d33 := ok__law_odd (P := l.prog) (base := base) hw T (w33.stands X G fun _ _ _ _ _ _ us hl => match us, hl with | [_, _], _ => rfl) d24
    have d34 := ok__law_bent (P := l.prog) (base := base) hw T (w34.stands X G fun _ _ _ _ _ _ us hl => match us, hl with | [_, _, _], _ => rfl) d23 d33 d24 6
    have d31 := ok__law_is_hold (P := l.prog) (base := base) hw T (w31.stands X G fun _ _ _ _ _ _ us hl => match us, hl with | [_, _, _], _ => rfl) d27 d28
    have d32 := ok__law_is_state (P := l.prog) (base := base) hw T (w32.stands X G fun _ _ _ _ _ _ us hl => match us, hl with | [_, _, _], _ => rfl) d31
    exact ok_law hw T w35.fn d22 d23 d25 d26 d9 d30 d19 d34 d32
end
end K06
open PySem PySem.W PyProof.Rows
set_option maxRecDepth 100000 in
set_option maxHeartbeats 0 in
theorem PySem.Challenge.cw_strangersay_k06_states_of_anything_holds : PySem.Challenge.rw_strangersay_k06_states_of_anything.Holds := by
  w_on; o_law; k_head; (case hw => w_witness2)
  k_fill
  refine Sa.walk_sa (l := PySem.Challenge.rw_strangersay_k06_states_of_anything) (n := 63) (k := 17) (x := "_law_script") rfl (by decide) rfl ⟨rfl, by decide, by decide⟩ (fun w h Y => PySem.W.kIn_of Y) ?F
  case F =>
    intro w mg fa h Y KX G hmg tb
    refine' K06.all_mk KX G hmg tb ⟨PySem.W.mg_none_of KX G ?z1, PySem.W.mg_none_of KX G ?z2, PySem.W.mg_none_of KX G ?z3, PySem.W.mg_none_of KX G ?z4, PySem.W.mg_none_of KX G ?z5, PySem.W.mg_none_of KX G ?z6, PySem.W.mg_none_of KX G ?z7, PySem.W.mg_none_of KX G ?z8, PySem.W.mg_none_of KX G ?z9, PySem.W.mg_none_of KX G ?z10, PySem.W.mg_none_of KX G ?z11, PySem.W.mg_none_of KX G ?z12, PySem.W.mg_none_of KX G ?z13, PySem.W.mg_none_of KX G ?z14, PySem.W.mg_none_of KX G ?z15, PySem.W.mg_none_of KX G ?z16⟩ ⟨?a22, L2.fun_mk ?l22 ?c22 ?k22⟩ ⟨?a23, L2.fun_mk ?l23 ?c23 ?k23⟩ ⟨?a26, L2.fun_mk ?l26 ?c26 ?k26⟩ ⟨?a3, L2.fun_mk ?l3 ?c3 ?k3⟩ ⟨?a4, L2.fun_mk ?l4 ?c4 ?k4⟩ ⟨?a6, L2.fun_mk ?l6 ?c6 ?k6⟩ ⟨?a7, L2.fun_mk ?l7 ?c7 ?k7⟩ ⟨?a9, L2.fun_mk ?l9 ?c9 ?k9⟩ ⟨?a24, L2.fun_mk ?l24 ?c24 ?k24⟩ ⟨?a27, L2.fun_mk ?l27 ?c27 ?k27⟩ ⟨?a28, L2.fun_mk ?l28 ?c28 ?k28⟩ ⟨?a29, L2.fun_mk ?l29 ?c29 ?k29⟩ ⟨?a30, L2.fun_mk ?l30 ?c30 ?k30⟩ ⟨?a25, L2.fun_mk ?l25 ?c25 ?k25⟩ ⟨?a1, L2.fun_mk ?l1 ?c1 ?k1⟩ ⟨?a2, L2.fun_mk ?l2 ?c2 ?k2⟩ ⟨?a11, L2.fun_mk ?l11 ?c11 ?k11⟩ ?code11 ⟨?a14, L2.fun_mk ?l14 ?c14 ?k14⟩ ⟨?a12, L2.fun_mk ?l12 ?c12 ?k12⟩ ⟨?a15, L2.fun_mk ?l15 ?c15 ?k15⟩ ⟨?a8, L2.fun_mk ?l8 ?c8 ?k8⟩ ⟨?a17, L2.fun_mk ?l17 ?c17 ?k17⟩ ?code17 ⟨?a20, L2.fun_mk ?l20 ?c20 ?k20⟩ ?code20 ⟨?a16, L2.fun_mk ?l16 ?c16 ?k16⟩ ⟨?a18, L2.fun_mk ?l18 ?c18 ?k18⟩ ?code18 ⟨?a19, L2.fun_mk ?l19 ?c19 ?k19⟩ ⟨?a33, L2.fun_mk ?l33 ?c33 ?k33⟩ ⟨?a34, L2.fun_mk ?l34 ?c34 ?k34⟩ ⟨?a31, L2.fun_mk ?l31 ?c31 ?k31⟩ ⟨?a32, L2.fun_mk ?l32 ?c32 ?k32⟩ ⟨?a35, L2.fun_mk ?l35 ?c35 ?k35⟩ ?lC11 ?v11 ?nT11 ?rec11 ?lC17 ?v17 ?nT17 ?rec17 ?lC20 ?v20 ?nT20 ?rec20 ?lC18 ?v18 ?nT18 ?rec18
    (case a22 => k_is); (case l22 => k_is); (case c22 => k_is); (case k22 => k_is)
    (case a23 => k_is); (case l23 => k_is); (case c23 => k_is); (case k23 => k_is)
    (case a26 => k_is); (case l26 => k_is); (case c26 => k_is); (case k26 => k_is)
    (case a3 => k_is); (case l3 => k_is); (case c3 => k_is); (case k3 => k_is)
    (case a4 => k_is); (case l4 => k_is); (case c4 => k_is); (case k4 => k_is)
    (case a6 => k_is); (case l6 => k_is); (case c6 => k_is); (case k6 => k_is)
    (case a7 => k_is); (case l7 => k_is); (case c7 => k_is); (case k7 => k_is)
    (case a9 => k_is); (case l9 => k_is); (case c9 => k_is); (case k9 => k_is)
    (case a24 => k_is); (case l24 => k_is); (case c24 => k_is); (case k24 => k_is)
    (case a27 => k_is); (case l27 => k_is); (case c27 => k_is); (case k27 => k_is)
    (case a28 => k_is); (case l28 => k_is); (case c28 => k_is); (case k28 => k_is)
    (case a29 => k_is); (case l29 => k_is); (case c29 => k_is); (case k29 => k_is)
    (case a30 => k_is); (case l30 => k_is); (case c30 => k_is); (case k30 => k_is)
    (case a25 => k_is); (case l25 => k_is); (case c25 => k_is); (case k25 => k_is)
    (case a1 => k_is); (case l1 => k_is); (case c1 => k_is); (case k1 => k_is)
    (case a2 => k_is); (case l2 => k_is); (case c2 => k_is); (case k2 => k_is)
    (case a11 => k_is); (case l11 => k_is); (case c11 => k_is); (case k11 => k_is)
    (case a14 => k_is); (case l14 => k_is); (case c14 => k_is); (case k14 => k_is)
    (case a12 => k_is); (case l12 => k_is); (case c12 => k_is); (case k12 => k_is)
    (case a15 => k_is); (case l15 => k_is); (case c15 => k_is); (case k15 => k_is)
    (case a8 => k_is); (case l8 => k_is); (case c8 => k_is); (case k8 => k_is)
    (case a17 => k_is); (case l17 => k_is); (case c17 => k_is); (case k17 => k_is)
    (case a20 => k_is); (case l20 => k_is); (case c20 => k_is); (case k20 => k_is)
    (case a16 => k_is); (case l16 => k_is); (case c16 => k_is); (case k16 => k_is)
    (case a18 => k_is); (case l18 => k_is); (case c18 => k_is); (case k18 => k_is)
    (case a19 => k_is); (case l19 => k_is); (case c19 => k_is); (case k19 => k_is)
    (case a33 => k_is); (case l33 => k_is); (case c33 => k_is); (case k33 => k_is)
    (case a34 => k_is); (case l34 => k_is); (case c34 => k_is); (case k34 => k_is)
    (case a31 => k_is); (case l31 => k_is); (case c31 => k_is); (case k31 => k_is)
    (case a32 => k_is); (case l32 => k_is); (case c32 => k_is); (case k32 => k_is)
    (case a35 => k_is); (case l35 => k_is); (case c35 => k_is); (case k35 => k_is)
    (case z1 => k_is); (case z2 => k_is); (case z3 => k_is); (case z4 => k_is); (case z5 => k_is); (case z6 => k_is); (case z7 => k_is); (case z8 => k_is); (case z9 => k_is); (case z10 => k_is); (case z11 => k_is); (case z12 => k_is); (case z13 => k_is); (case z14 => k_is); (case z15 => k_is); (case z16 => k_is)
    (case code11 => rfl); (case lC11 => k_is); (case v11 => rfl); (case nT11 => rfl); (case rec11 => rfl)
    (case code17 => rfl); (case lC17 => k_is); (case v17 => rfl); (case nT17 => rfl); (case rec17 => rfl)
    (case code20 => rfl); (case lC20 => k_is); (case v20 => rfl); (case nT20 => rfl); (case rec20 => rfl)
    (case code18 => rfl); (case lC18 => k_is); (case v18 => rfl); (case nT18 => rfl); (case rec18 => rfl)
