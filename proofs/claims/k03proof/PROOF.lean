import PyProof.Rows.All
import Wide.All
import OpenK.AllK
import Wide.FinOn
import HandS.ForMost
import HandS.Conv
import HandS.More
import HandS.TupAny
import HandS.Style
import HandS.ExcOwn
import PySem.Challenge.RW_whatturns_k03_changes_possible_or_not
import HandS.IsInst
import HandS.StrMore
import KE.KEqDict
import PyProof.Rows.SetObj
import HandS.Base
import HandS.Call
import HandS.List
import HandS.Strs
import HandS.ForExc
import HandS.Defaults
import HandS.ExcInit
import HandS.ExcValue
import HandS.ExcIs
import HandS.TryMany
import KE.GoesMore
import PyProof.EnumMake
import PyProof.EnumFor
import PyProof.Draws
import HandS.Iter
import HandS.Walk
import HandS.Property
import HandS.Text
import KE.KExcIs
import HandS.ExcField
import KE.DataEq
import KE.DataFind
import KE.SortCalls
import KE.DataMinMax
import KE.KUnpackStar
import HandS.Star
import HandS.SetBool
import HandS.SetKeys
import HandS.ClsMeth
import HandS.DictComp
import HandS.NoneIn
import HandS.TryOnly
import HandS.WordsExc
import HandS.TupMul
import HandS.HeadHook1
import HandS.HeadHook2
import HandS.HeadHook3
set_option Elab.async false
set_option linter.all false
set_option maxRecDepth 100000
set_option maxHeartbeats 8000000
/-! tuples that are made here: their objects have no dict -/
namespace Vm
open PySem PySem.Spec PyProof.Rows L2 HT
section
variable {prog : Program} {w : World} {A : Around} {E : Value → Shared → Prop} {s : Shared}
theorem places_rev (n : Nat) : Builtin.Slice.sliceAdjust none none (-1) (n : Int) = ((n : Int) - 1, -1) ∧ Builtin.Slice.slicePlaces ((n : Int) - 1) (-1) (-1) = n := by
  refine ⟨rfl, ?_⟩
  unfold Builtin.Slice.slicePlaces
  rw [if_neg (by decide)]
  by_cases h : ((n : Int) - 1) > -1
  · rw [if_pos h]
    have : (((n : Int) - 1 - -1 - 1) / (- -1) + 1) = (n : Int) := by
      rw [show (- -1 : Int) = 1 by rfl, Int.ediv_one]
      omega
    rw [this]
    rfl
  · rw [if_neg h]
    have : n = 0 := by omega
    rw [this]
    rfl
theorem pick_rev (xs : Array Value) : ((List.range xs.size).filterMap fun (m : Nat) => xs[(((xs.size : Int) - 1) + (m : Int) * (-1)).toNat]?).toArray = xs.toList.reverse.toArray := by
  congr 1
  have h : ∀ k, k ≤ xs.size → ((List.range k).filterMap fun (m : Nat) => xs[(((xs.size : Int) - 1) + (m : Int) * (-1)).toNat]?) = (xs.toList.drop (xs.size - k)).reverse := by
    intro k
    induction k with
    | zero =>
      intro _
      rw [List.range_zero, List.drop_of_length_le (by rw [Array.length_toList]; omega)]
      rfl
    | succ k ih =>
      intro hk
      rw [List.range_succ, List.filterMap_append, ih (by omega)]
      have e : (((xs.size : Int) - 1) + (k : Int) * (-1)).toNat = xs.size - (k + 1) := by omega
      have lt : xs.size - (k + 1) < xs.size := by omega
      have e2 : xs.toList.drop (xs.size - (k + 1)) = xs.toList[xs.size - (k + 1)]'(by rw [Array.length_toList]; exact lt) :: xs.toList.drop (xs.size - k) := by
        have z := List.drop_eq_getElem_cons (l := xs.toList) (i := xs.size - (k + 1)) (by rw [Array.length_toList]; exact lt)
        rw [z]
        congr 2
        omega
      rw [e2, List.reverse_cons]
      congr 1
      simp only [List.filterMap_cons, List.filterMap_nil, e, Array.getElem?_eq_getElem lt]
      rfl
  have z := h xs.size (Nat.le_refl _)
  rw [z, Nat.sub_self, List.drop_zero]
theorem sliceApplied_rev {sl : Addr} {vl vu vs : Value} {n : Nat} {Q : Int × Int × Nat → Shared → Prop} (hs : s.heap.IsSliceOf sl vl vu vs) (pl : IsPart vl none) (pu : IsPart vu none) (ps : IsPart vs (some (-1)))
    (h : Q ((n : Int) - 1, -1, n) s) : wpAny (model prog w) A (Builtin.Slice.sliceApplied (.ref sl) (pure (n : Int))) Q E s := by
  obtain ⟨os, hos, hcs, hds⟩ := id hs
  unfold Builtin.Slice.sliceApplied Builtin.Slice.sliceFields
  refine wpAny_bind (wpAny_bind (wpAny_field hos hds (x := vl) rfl (wpAny_bind (wpAny_field hos hds (x := vu) rfl (wpAny_bind (wpAny_field hos hds (x := vs) rfl (wpAny_pure ?_)))))))
  refine wpAny_bind (slicePart_ ps ?_)
  show wpAny _ _ (if ((-1 : Int) == 0) = true then _ else _) _ _ s
  rw [if_neg (by decide)]
  refine wpAny_bind (slicePart_ pl (wpAny_bind (slicePart_ pu (wpAny_bind (wpAny_pure ?_)))))
  show wpAny _ _ (match Builtin.Slice.sliceAdjust none none (-1) (n : Int) with | (lo, hi) => pure (lo, (-1 : Int), Builtin.Slice.slicePlaces lo hi (-1))) _ _ s
  rw [(places_rev n).1]
  show wpAny _ _ (pure ((n : Int) - 1, (-1 : Int), Builtin.Slice.slicePlaces ((n : Int) - 1) (-1) (-1))) _ _ s
  rw [(places_rev n).2]
  exact wpAny_pure h
theorem getItem_tuple_rev {t sl : Addr} {items : Array Value} {vl vu vs : Value} {Q : Value → Shared → Prop} (ht : IsTup s.heap t items) (hs : s.heap.IsSliceOf sl vl vu vs) (pl : IsPart vl none) (pu : IsPart vu none) (ps : IsPart vs (some (-1)))
    (h : Q (.ref s.heap.objs.size) { s with heap := s.heap.push { cls := .type "tuple", data := .seq items.toList.reverse.toArray } })
    (hsz : items.size ≤ sizeLine) : wpAny (model prog w) A (getItem (.ref t) (.ref sl)) Q E s := by
  have htake : sizeOk (.seq items.toList.reverse.toArray) := by
    show items.toList.reverse.toArray.size ≤ sizeLine
    rw [List.size_toArray, List.length_reverse, Array.length_toList]
    exact hsz
  obtain ⟨os, hos, hcs, hds⟩ := id hs
  have hTs : s.TypeIs (.ref sl) "slice" := ⟨os, hos, hcs⟩
  unfold getItem
  try with_reducible refine wpAny_holding ?_
  first | refine wpAny_bind (wpAny_pure ?_) | skip
  refine wpAny_bind (wpAny_sequenceKey ht.typeIs (by decide) ?_)
  refine wpAny_bind (wpAny_callSpecial?_slot (name := Str.ofString "__getitem__") ht.typeIs PyProof.Rows.slot_tuple_getitem
    (wpAny_call_entry PyProof.Rows.slot_tuple_getitem ht.typeIs entry_tuple_getitem ?_ (args_tuple_getitem _ _)))
  show wpAny _ _ (Builtin.Tuple.tupleItemsOf (.ref t) >>= _) _ _ s
  refine wpAny_bind (tupleItemsOf_ ht ?_)
  refine wpAny_bind (wpAny_typeOf hTs ?_)
  rw [if_pos (by decide)]
  refine wpAny_bind (sliceApplied_rev hs pl pu ps ?_)
  have hno : ¬ (((((items.size : Int) - 1) == 0 && (-1 : Int) == 1 && items.size == items.size)) = true) := by
    intro q
    rw [Bool.and_eq_true, Bool.and_eq_true] at q
    exact absurd q.1.2 (by decide)
  show wpAny _ _ (if (((items.size : Int) - 1) == 0 && (-1 : Int) == 1 && items.size == items.size) = true then _ else _) _ _ s
  rw [if_neg hno, pick_rev]
  first
    | exact wpAny_bind (m := Builtin.Tuple.tupleExact _) (wpAny_newObj_type (wpAny_pure ⟨_, rfl, wpAny_pure h⟩) htake)
    | exact wpAny_bind (m := Builtin.Tuple.tupleExact _) (wpAny_newObj_type (wpAny_bind (wpAny_pure (wpAny_pure ⟨_, rfl, wpAny_pure h⟩))) htake)
    | exact wpAny_bind (wpAny_bind (m := Builtin.Tuple.tupleExact _) (wpAny_newObj_type (wpAny_pure (wpAny_pure ⟨_, rfl, wpAny_pure h⟩)) htake))
    | exact wpAny_bind (wpAny_bind (m := Builtin.Tuple.tupleExact _) (wpAny_newObj_type (wpAny_pure ⟨_, rfl, wpAny_pure h⟩) htake))
end
/-- a new tuple of these items is the value -/
def New (H : Hp) (xs : List V) (Q : VK) : Prop := ∀ (p : Addr) (o : Obj), H p = none → o.dict = none → Q (.ref p) (upd H p (.frz o (.tup xs)))
abbrev tobj (us : List Value) : Obj := { cls := .type "tuple", data := .seq us.toArray }
section
variable {X : Cx} {pins : List (Addr × Obj)} {σ : L2.St} {H : Hp} {s : Shared} {Q : VK}
/-- its object is laid behind the heap -/
theorem New.laid {xs : List V} {us : List Value} (q : New H xs Q) (I : Inv X pins σ H s) (r : Vals xs us) (few : xs.length ≤ sizeLine) : EP X pins σ Q (.ref s.heap.objs.size) { s with heap := s.heap.push (tobj us) } := by
  have at_ : (s.heap.push (tobj us)).get? s.heap.objs.size = some (tobj us) := Heap.get?_push_size _ rfl
  have ok : ObjOk X.prog X.w (upd H s.heap.objs.size (.frz (tobj us) (.tup xs))) (s.heap.push (tobj us)) s.heap.objs.size (.frz (tobj us) (.tup xs)) := ⟨at_, few, us, r, _, at_, rfl, _, rfl⟩
  have free : H s.heap.objs.size = none := I.hok.fresh (Nat.le_refl _)
  refine ⟨.ref s.heap.objs.size, _, I.laid (o := .frz (tobj us) (.tup xs)) (t' := s.toks) (fun c u e => ?_) (Nat.le_refl _) ok, rfl, q _ _ free rfl⟩
  exact Heap.get?_push_of_some (tobj us) e
theorem vals_few {xs : List V} {us : List Value} (r : Vals xs us) {n : Nat} (h : xs.length ≤ n) : us.toArray.size ≤ n := by
  rw [List.size_toArray, ← r.length]
  exact h
def tTupF (t : TA) : TE := fun σ H Q => t σ H fun xs H1 => xs.length ≤ sizeLine ∧ New H1 xs Q
theorem pe_tupF {es : List Expr} {t : TA} {pos : Pos} {x1} (h : PA X es t) : PE X (.Tuple es x1 pos) (tTupF t) := by
  constructor
  intro pins s σ H Q I want
  refine wpAny_Tuple_spliced (thn (h.run pos pins s σ H _ I want) ?_)
  rintro us s1 ⟨xs, H1, I1, r, few, q⟩
  exact ⟨r.length ▸ few, q.laid I1 r few⟩
/-- tuple(list) -/
theorem call_tupleF : CallR X (.type "tuple") (fun xs H Q => ∃ p ys, xs = [.ref p] ∧ SqL X.K H p ys ∧ New H ys Q) := by
  rintro pins s σ H xs us Q I rel ⟨p, ys, rfl, hq, q⟩
  obtain ⟨u, rfl, e⟩ := vals1 rel
  cases e
  obtain ⟨its, r, pl, few⟩ := I.list hq
  exact call_tuple_list pl.isList (fun h' kp => q.laid (s := { s with heap := h' }) (I.kept (t' := s.toks) kp) r few) (vals_few r few)
/-- t + u -/
def rCatF (K : PySem.W.Frag) : R2 := fun x y H Q => ∃ a b xs ys, x = .ref a ∧ y = .ref b ∧ SqT K H a xs ∧ SqT K H b ys ∧ xs.length + ys.length ≤ sizeLine ∧
  (xs = [] → Q (.ref b) H) ∧ (xs ≠ [] → ys = [] → Q (.ref a) H) ∧ (xs ≠ [] → ys ≠ [] → New H (xs ++ ys) Q)
theorem op_catF : OpR X (binaryOp .Add) (rCatF X.K) := by
  rintro pins s σ H x y v u Q I rx ry ⟨a, b, xs, ys, rfl, rfl, ha, hb, few, left, right, both⟩
  cases rx
  cases ry
  obtain ⟨its, r, ta, _⟩ := I.tuple ha
  obtain ⟨its2, r2, tb, _⟩ := I.tuple hb
  have none_iff := r2.nil_iff
  cases xs with
  | nil =>
    cases r
    exact cat_tup0 ta tb ⟨.ref b, H, I, rfl, left rfl⟩
  | cons y0 xs =>
    have some_ : y0 :: xs ≠ [] := List.cons_ne_nil _ _
    refine HT.cat_tup ta tb (fun e => some_ (r.nil_iff.mp e)) (fun e => ⟨.ref a, H, I, rfl, right some_ (none_iff.mp e)⟩) (fun e => ?_) ?_
    · exact (both some_ fun z => e (none_iff.mpr z)).laid I (r.append r2) (by rw [List.length_append]; exact few)
    · rw [← r.length, ← r2.length]
      exact few
/-- t[lo:hi] -/
def rSlF (K : PySem.W.Frag) : V → Option Int → Option Int → Hp → VK → Prop := fun x lo hi H Q => ∃ a xs, x = .ref a ∧ SqT K H a xs ∧
  (HT.sIx xs.length 0 lo = 0 ∧ HT.sIx xs.length xs.length hi = xs.length → Q (.ref a) H) ∧ New H (cutV xs lo hi) Q
theorem sl_tupF : SlR X (rSlF X.K) := by
  rintro pins s σ H x v vl vu lo hi sl Q I rx sliced pl pu ⟨a, xs, rfl, hx, whole, q⟩
  cases rx
  obtain ⟨its, r, ht, few⟩ := I.tuple hx
  have size : its.toArray.size = xs.length := by rw [List.size_toArray, r.length]
  refine ⟨"tuple", _, PyProof.Rows.slot_tuple_getitem.lookup, ht.typeIs, ?_⟩
  by_cases all : HT.sIx xs.length 0 lo = 0 ∧ HT.sIx xs.length xs.length hi = xs.length
  · exact getItem_tuple_whole ht sliced pl pu (size ▸ all) ⟨.ref a, H, I, rfl, whole all⟩
  · refine HT.getItem_tuple_cut ht sliced pl pu (size ▸ all) ?_ (size ▸ few)
    rw [size]
    exact q.laid I ((r.drop _).take _) (Nat.le_trans (cutV_length xs lo hi) few)
/-- t[::-1] -/
def tRevT (K : PySem.W.Frag) (te : TE) : TE := fun σ H Q => te σ H fun x H1 => ∃ a xs, x = .ref a ∧ SqT K H1 a xs ∧ New H1 xs.reverse Q
theorem pe_revT {e : Expr} {te : TE} {k : Nat} {p1 p2 p3 pos : Pos} (he : PE X e te) : PE X (.Subscript e (.Slice none none (some (.UnaryOp .USub (.Constant (.int 1) k p1) p2)) p3) pos) (tRevT X.K te) := by
  constructor
  intro pins s σ H Q I want
  refine Subscript_ (thn (he.run pins s σ H _ I want) ?_)
  rintro v s1 ⟨_, H1, I1, rel, a, xs, rfl, hx, q⟩
  cases rel
  have back : PO X (some (.UnaryOp .USub (.Constant (.int 1) k p1) p2)) (tPart (tUn (rU fun i => .int (-i)) (tC (.int 1)))) := po_some (pe_un un_neg pe_int)
  refine wpAny_Slice (thn (po_none.run pins s1 σ H1 (fun o G => o = none ∧ G = H1) I1 ⟨rfl, rfl⟩) ?_)
  rintro vl s2 ⟨_, _, I2, pl, rfl, rfl⟩
  refine thn (po_none.run pins s2 σ _ (fun o G => o = none ∧ G = _) I2 ⟨rfl, rfl⟩) ?_
  rintro vu s3 ⟨_, _, I3, pu, rfl, rfl⟩
  refine thn (back.run pins s3 σ _ (fun o G => o = some (-1) ∧ G = _) I3 ⟨1, rfl, -1, rfl, rfl, rfl⟩) ?_
  rintro vs s4 ⟨_, G, I4, ps, rfl, rfl⟩
  let sob : Obj := { cls := .type "slice", data := .fields #[vl, vu, vs] }
  have I5 : Inv X pins σ G { s4 with heap := s4.heap.push sob } := I4.kept (t' := s4.toks) fun _ _ z => Heap.get?_push_of_some sob z
  obtain ⟨its, r, ht, few⟩ := I5.tuple hx
  show wpAny (model X.prog X.w) X.A (subscriptTail e (.Slice none none (some (.UnaryOp .USub (.Constant (.int 1) k p1) p2)) p3) (.ref a) (.ref s4.heap.objs.size)) (EP X pins σ Q) X.xe { s4 with heap := s4.heap.push sob }
  refine tail_any (ops := [.ref a, .ref s4.heap.objs.size]) ht.typeIs PyProof.Rows.slot_tuple_getitem.lookup ?_ (by with_unfolding_all rfl)
  exact getItem_tuple_rev ht (Heap.IsSliceOf.new _ vl vu vs) pl pu ps (q.laid I5 r.reverse (by rw [List.length_reverse]; exact few)) (vals_few r few)
end
end Vm
namespace Vm
open PySem PySem.Spec PyProof.Rows L2
/-- a promise that may lean on: no repr is under way -/
structure FnG (P : Program) (w : World) (K : PySem.W.Frag) (mg : Str → Option Value) (base : Heap) (CX : CXT) (k : Nat) (f : Addr) (fd : FuncData) (ps : List Str) (sp : Sp) : Prop where
  lenG : ∀ vs H Q E, sp vs H Q E → vs.length = ps.length
  runG : ∀ (A : Around) (below : List Env) (s : Shared) (H : Hp) (gs : Args) (us : List Value) (vs : List V) (Q : VK) (E : XK), A.guards = some [] → Room k A → Env0 P w K mg base A below s H → BindsTo s fd gs (ps.zip us) → Vals vs us →
    sp vs H Q E → codeAny (model P w) A (.call (.ref f) gs) (CR CX below P w H s Q E) s
section
variable {P : Program} {w : World} {K : PySem.W.Frag} {mg : Str → Option Value} {base : Heap}
theorem okG {CX : CXT} {x qual : Str} {st : Stmt} {f : Addr} {fd : FuncData} {N ps : List Str} {k : Nat} {sp : Sp} (F : Fun K x qual st f fd) (S : FnScope N ps (defScope st)) (len : ∀ vs H Q E, sp vs H Q E → vs.length = ps.length)
    (hbody : ∀ (cdv : Value) (A : Around) (below : List Env) (s : Shared) (H : Hp) (vs : List V) (Q : VK) (E : XK), A.guards = some [] → Room k (A.deeper (envOfC qual (defScope st) s.heap.objs.size f cdv)) → sp vs H Q E →
      ∃ t, PSs (cxOf CX P w K mg base N qual (defScope st) f cdv A below s H E) (defBody st) t ∧ t { nx := fun _ H' => Q .non H', rt := Q } (start N vs) H) : FnG P w K mg base CX (k + 1) f fd ps sp := by
  obtain ⟨oc, od, kV, doc, pm, an, cdv, ct, osl, rfl, lk, hcd⟩ := F.ex
  constructor
  · exact len
  intro A below s H gs us vs Q E ag room z bd rel want
  have KX : K.In s.heap := z.mod.kin.keeps fun b o e => (z.bs b o e).1
  have calm : s.heap.NoLimit := z.mod.nolimit.keeps fun b o e => (z.bs b o e).1
  have kinds : ∀ y ∈ ps.zip us, (defScope st).names.lookup y.1 = some .local ∨ ((defScope st).names.lookup y.1 = some .cell ∧ ((cellsFrom (s.heap.objs.size + 1) (defScope st).names []).lookup y.1).isSome = true) := by
    rintro ⟨n, v⟩ hy
    exact (S.par n (List.of_mem_zip hy).1).imp id fun q => ⟨q, PySem.W.cellsFrom_some _ _ _ (.inl q)⟩
  refine codeAny_call_function room.depth (KX _ _ lk) rfl S.co S.gen rfl (PySem.W.codeRec_of KX hcd) (bd _ _ _ _ ?_)
  refine wpAny_newFunctionEnv_cells S.kind kinds fun env same s1 x => ?_
  cases same
  refine ⟨calm.keeps x.toInCall.keep, codeAny_func ?_⟩
  obtain ⟨t, ht, go⟩ := hbody cdv A below s H vs Q E ag (room.deeper _) want
  have J := inv_start (CX := CX) (E := E) (P := P) (w := w) (K := K) (mg := mg) S room.hd z (len _ _ _ _ want) rel x
  refine wpAny_mono (ht.run [] s1 (start N vs) H _ J go) (fun fl s' got => ?_) fun _ _ got => got
  cases fl with
  | ret u => exact let ⟨v, _, H', J', rv, q⟩ := got; ⟨v, H', J'.os, J'.bare, J'.base, J'.hok, rv, q⟩
  | next => exact let ⟨_, H', J', q⟩ := got; ⟨.non, H', J'.os, J'.bare, J'.base, J'.hok, rfl, q⟩
  | brk => exact (let ⟨_, _, _, q⟩ := got; q : False).elim
  | cont => exact (let ⟨_, _, _, q⟩ := got; q : False).elim
theorem okG0 {x qual : Str} {st : Stmt} {f : Addr} {fd : FuncData} {N ps : List Str} {k : Nat} {sp : Sp} (F : Fun K x qual st f fd) (S : FnScope N ps (defScope st)) (len : ∀ vs H Q E, sp vs H Q E → vs.length = ps.length)
    (hbody : ∀ (cdv : Value) (A : Around) (below : List Env) (s : Shared) (H : Hp) (vs : List V) (Q : VK) (E : XK), A.guards = some [] → Room k (A.deeper (envOfC qual (defScope st) s.heap.objs.size f cdv)) → sp vs H Q E →
      ∃ t, PSs (cxOf CX0 P w K mg base N qual (defScope st) f cdv A below s H E).nox (defBody st) t ∧ t { nx := fun _ H' => Q .non H', rt := Q } (start N vs) H) : FnG P w K mg base CX0 (k + 1) f fd ps sp :=
  okG F S len fun cdv A below s H vs Q E ag room want => (hbody cdv A below s H vs Q E ag room want).imp fun t h => ⟨h.1.nox, h.2⟩
end
section
variable {X : Cx} {CX : CXT} {k : Nat} {f : Addr} {fd : FuncData} {ps : List Str} {sp : Sp} {x : Str} {p pos : Pos} {e : Expr} {es : List Expr} {t : TA}
theorem pe_callG (F : FnG X.prog X.w X.K X.mg X.base CX0 k f fd ps sp) (ag : X.A.guards = some []) (room : Room k X.A) (hg : Gl X x) (hm : X.mg x = some (.ref f)) (hk : PySem.W.keepIn X.K (.ref f) = true) (hb : Binds X.K fd ps [])
    (ha : PA X (e :: es) t) (nd : (x == ("__debug__" : Str)) = false := by decide) (one : starEach (e :: es) X.env = (false, eval e X.env) :: starEach es X.env := by rfl) (plain : (backTo pos (starEach es X.env)).any (·.1) = false := by rfl) :
    PE X (.Call (.Name x p) (e :: es) [] pos) (tCall sp [] E0 t) := by
  constructor
  intro pins s σ H Q I h
  refine wpAny_Call_Name_kw (ld_glob I hg hm (PySem.W.callWith_K (h₀ := X.base) I.ok.mod.kin hk (thn (ha.run pos pins s σ H _ I h) ?_) one plain) nd)
  rintro us s1 ⟨vs, H1, I1, rel, want⟩
  rw [List.append_nil] at want
  refine ⟨I1.kIn, wpAny_call (codeAny_mono (F.runG X.A X.stack s1 H1 ⟨us, []⟩ us vs Q E0 ag room I1.env0 ?_ rel want) ?_)⟩
  · have z := hb s1 us I1.kIn (by rw [List.append_nil, ← rel.length]; exact F.lenG _ _ _ _ want)
    rwa [List.append_nil] at z
  · intro r s' got
    match r, got with
    | .ok (.ret u), got => exact I1.after got
end
/-- the call of the law itself -/
theorem law_callG {P : Program} {w : World} {K : PySem.W.Frag} {mg mb : Str → Option Value} {k : Nat} {fa a : Addr} {fd : FuncData} {x : Str} {sp : Sp} {s₁ : Shared} {vs : List Value} {ns : List Int}
    (KX : K.In s₁.heap) (hns : s₁.heap.Ns mainGlobals mg) (hb : s₁.heap.Ns builtinsNs mb) (hbb : ∀ x : Str, x ≠ "__name__" → mb x = bootBuiltins x) (hlim : s₁.heap.NoLimit) (hg : s₁.gens = #[])
    (ha : s₁.heap.get? a = some { cls := .type "list", data := .seq vs.toArray }) (hi : IntsAre vs ns) (hl : ns.length ≤ sizeLine) (room : Room k callerA)
    (F : ∀ base : Heap, K.In base → base.Ns mainGlobals mg → FnG P w K mg base CX0 k fa fd [x] sp) (bd : ∀ (s : Shared) (u : Value), BindsTo s fd ⟨[u], []⟩ [(x, u)])
    (want : ∀ H : Hp, Only H → SqL K H a (ns.map V.int) → sp [.ref a] H (fun v _ => v = .bl true) fun _ _ _ => False) :
    codeAny (model P w) callerA (.call (.ref fa) ⟨[.ref a], []⟩) (fun r s' => r = .ok (.ret (.bool true)) ∧ OldK s₁.heap s'.heap ∧ s'.os = s₁.os ∧ AllBare s'.gens) s₁ := by
  have key : ∀ H : Hp, (∀ b u, H b = some u → b = a ∧ K.lookup a = none ∧ ∃ o xs, u = .frz o (.lst xs)) → SqL K H a (ns.map V.int) → HOk P w H s₁.heap →
      codeAny (model P w) callerA (.call (.ref fa) ⟨[.ref a], []⟩) (fun r s' => r = .ok (.ret (.bool true)) ∧ OldK s₁.heap s'.heap ∧ s'.os = s₁.os ∧ AllBare s'.gens) s₁ := by
    intro H own hS hok
    have nonev : ∀ {b : Addr}, (∀ u, H b ≠ some u) → H b = none := fun {b} n => by
      cases q : H b with
      | none => rfl
      | some u => exact absurd q (n u)
    have only : Only H := fun b => by
      cases q : H b with
      | none => exact .inl rfl
      | some u => exact let ⟨_, _, o, xs, e⟩ := own b u q; .inr ⟨o, xs, by rw [e]⟩
    have space : ∀ {b : Addr} {m : Str → Option Value}, s₁.heap.Ns b m → (hidT s₁.heap H).Ns b m := by
      rintro b m ⟨o, es, ep, e, d, r⟩
      refine ⟨o, es, ep, hidT_get e (nonev fun u z => ?_), d, r⟩
      rw [(own b u z).1, ha] at e
      cases e
      cases d
    have kb : K.In (hidT s₁.heap H) := fun b o e => hidT_get (KX b o e) (nonev fun u z => by
      obtain ⟨rfl, q, _⟩ := own b u z
      rw [q] at e
      cases e)
    obtain ⟨mc, c1, c2⟩ := hlim
    have z0 : Env0 P w K mg (hidT s₁.heap H) callerA [] s₁ H :=
      { frames := rfl, mod := ⟨kb, space hns, ⟨mb, space hb, hbb⟩, ⟨mc, space c1, c2⟩⟩, bs := fun b o e => of_hidT e, bsz := Nat.le_of_eq (hidT_size _ _), funs := trivial, frf := fun b hb => absurd (show b ∈ ([] : List Addr) from hb) (by simp), hok := hok, bare := .of_eq hg }
    refine codeAny_mono ((F _ kb (space hns)).runG callerA [] s₁ H ⟨[.ref a], []⟩ [.ref a] [.ref a] _ _ rfl room z0 (bd s₁ (.ref a)) (.cons rfl .nil) (want H only hS)) ?_
    intro r s' got
    match r, got with
    | .ok (.ret u), got =>
      obtain ⟨v, H', os, bare, un, hok', rv, ev⟩ := got
      have ev' : v = .bl true := ev
      subst ev'
      obtain rfl : u = Value.bool true := rv
      refine ⟨rfl, OldK.of_keep fun b o e => ?_, os, bare⟩
      cases q : H b with
      | none => exact un.keep b o e q (fun z => nomatch (show b ∈ ([] : List Addr) from z)) (by simp)
      | some u =>
        obtain ⟨_, _, ob, xs, rfl⟩ := own b u q
        have e1 := (hok b _ q).1
        rw [e] at e1
        cases e1
        exact (hok' b _ (un.frzs b o _ q)).1
  have rel := vals_ints hi
  cases lk : K.lookup a with
  | some o =>
    have e := KX a o lk
    rw [ha] at e
    cases e
    exact key (fun _ => none) (fun b u z => nomatch (show (none : Option HO) = some u from z)) (.inr ⟨_, vs.toArray, _, lk, rfl, rfl, rfl, by rw [List.size_toArray, hi.length]; exact hl, by simpa using rel⟩) (fun b u z => nomatch (show (none : Option HO) = some u from z))
  | none =>
    have at_a : ∀ {b : Addr} {u : HO}, (if b = a then some (HO.frz { cls := .type "list", data := .seq vs.toArray } (.lst (ns.map V.int))) else none) = some u → b = a ∧ u = .frz { cls := .type "list", data := .seq vs.toArray } (.lst (ns.map V.int)) := fun {b u} z => by
      split at z
      · rename_i e
        exact ⟨e, (Option.some.inj z).symm⟩
      · cases z
    refine key (fun b => if b = a then some (.frz { cls := .type "list", data := .seq vs.toArray } (.lst (ns.map V.int))) else none) (fun b u z => ⟨(at_a z).1, lk, _, _, (at_a z).2⟩) (.inl (.inr ⟨_, if_pos rfl⟩)) (fun b u z => ?_)
    obtain ⟨rfl, rfl⟩ := at_a z
    exact ⟨ha, by rw [List.length_map]; exact hl, vs, _, rel, ha⟩
theorem walkG {l : PySem.W.OpenLaw} {n k : Nat} {q : Program} {loose : List Str} {XP : (Str → Option Value) → Heap → Prop} {YP : World → Heap → Prop} {d : DefRec} {K : Params → PySem.W.Frag} {sp : PySem.W.Frag → Sp} {x : Str}
    (most : l.most = some n) (n0 : n ≤ sizeLine) (nodef : d.params.defaults = []) (room : Room k callerA) (inY : ∀ (w : World) (h : Heap), YP w h → (K w.params).In h)
    (F : ∀ (w : World) (mg : Str → Option Value) (fa : Addr) (h : Heap), (K w.params).In h → h.Ns mainGlobals mg → mg d.name = some (.ref fa) →
      ∃ fd : FuncData, (∀ (s : Shared) (u : Value), BindsTo s fd ⟨[u], []⟩ [(x, u)]) ∧ ∀ base : Heap, (K w.params).In base → base.Ns mainGlobals mg → FnG l.prog w (K w.params) mg base CX0 k fa fd [x] (sp (K w.params)))
    (want : ∀ (K : PySem.W.Frag) (H : Hp) (a : Addr) (ns : List Int), ns.length ≤ n → Only H → SqL K H a (ns.map V.int) → sp K [.ref a] H (fun v _ => v = .bl true) fun _ _ _ => False) :
    PySem.W.WalkO q loose XP YP l.row.toRowW d [] (fun f vs => PySem.call f vs) := by
  refine Att.attach_call most nodef ?_
  intro w s₀ s₁ mg mb fa o pm cd doc a vs ns G Y _ _ _ hmg hobj wh short gens
  have KX := inY w _ Y
  obtain ⟨fd, bd, ok⟩ := F w mg fa _ KX G.T.g hmg
  exact law_callG KX G.T.g G.T.b G.T.builtins G.T.nolimit gens hobj wh (Nat.le_trans short n0) room ok bd fun H o hS => want (K w.params) H a ns short o hS
end Vm
namespace Vm
open PySem L2
/-! the text by places -/
def top (i : Nat) : Stmt := PySem.Challenge.pw_whatturns_k03_changes_possible_or_not.main.body.getD i (.Pass ⟨0, 0, 0, 0⟩)
abbrev sSource : Stmt := top 41
abbrev sDraw : Stmt := top 42
abbrev sPick : Stmt := top 43
/-- a source of draws stands at s: its list of numbers at l, the stirred number z, the count b -/
structure Src (H : Hp) (s l : Addr) (ms : List Int) (z b : Int) : Prop where
  hs : H s = some (.lst [.ref l, .int z, .int b])
  hl : H l = some (.lst (ms.map V.int))
  len : ms.length ≤ 63
theorem Src.ne {H : Hp} {s l : Addr} {ms : List Int} {z b : Int} (h : Src H s l ms z b) : s ≠ l := by
  intro e
  have h1 := h.hs
  rw [e, h.hl] at h1
  have h2 := Option.some.inj h1
  injection h2 with h3
  cases ms with
  | nil => cases h3
  | cons m r => 
    injection h3 with h4 _
    cases h4
/-- all but the source's two objects stands as before -/
def But (s l : Addr) (H H' : Hp) : Prop := ∀ b o, b ≠ s → b ≠ l → H b = some o → H' b = some o
theorem But.trans {s l : Addr} {H H1 H2 : Hp} (h1 : But s l H H1) (h2 : But s l H1 H2) : But s l H H2 :=
  fun b o n1 n2 e => h2 b o n1 n2 (h1 b o n1 n2 e)
theorem But.of_same {s l : Addr} {H H' : Hp} (h : Same H H') : But s l H H' := fun b o _ _ e => h b o e

def spSource (K : PySem.W.Frag) : Sp := fun vs H Q _ => ∃ (a : Addr) (ns : List Int), vs = [.ref a] ∧ SqL K H a (ns.map V.int) ∧ ns.length ≤ 63 ∧
  ∀ (H' : Hp) (s l : Addr) (ms : List Int) (z : Int), Same H H' → H s = none → H l = none → Src H' s l ms z 0 → Q (.ref s) H'
/-- one draw below many -/
def spDraw : Sp := fun vs H Q _ => ∃ (s l : Addr) (ms : List Int) (z b m : Int), vs = [.ref s, .int m] ∧ Src H s l ms z b ∧ 0 < m ∧ m ≤ 1000000 ∧ 0 ≤ b ∧ b < 1000000 ∧
  ∀ (H' : Hp) (ms' : List Int) (r : Int), But s l H H' → Src H' s l ms' z (b + 1) → 0 ≤ r → r < m → Q (.int r) H'

structure TxtA (K : PySem.W.Frag) (mg : Str → Option Value) : Prop where
  list : mg "list" = none
  len : mg "len" = none
  range : mg "range" = none
  tuple : mg "tuple" = none

theorem cut60 (ns : List Int) : cutV (ns.map V.int) none (some 60) = (ns.take 60).map V.int := by
  have e : HT.sIx (ns.map V.int).length (ns.map V.int).length (some 60) = min 60 ns.length := by
    have q := HT.sIx_nat (ns.map V.int).length (ns.map V.int).length 60
    rw [List.length_map] at q ⊢
    exact q
  unfold cutV
  rw [e]
  show ((ns.map V.int).drop 0).take (min 60 ns.length - 0) = _
  rw [List.drop_zero, Nat.sub_zero, ← List.map_take, List.take_eq_take_iff.mpr]
  omega
theorem map_ix {ns : List Int} {i : Nat} {y : V} (h : (ns.map V.int)[i]? = some y) : ∃ u, y = V.int u := by
  rw [List.getElem?_map] at h
  cases e : ns[i]? with
  | none => rw [e] at h; cases h
  | some u => rw [e] at h; exact ⟨u, (Option.some.inj h).symm⟩

theorem dpInts (K : PySem.W.Frag) (H : Hp) : ∀ ms : List Int, DpAll K H (ms.map V.int) (ms.map PyData.int)
  | [] => .nil
  | m :: r => .cons (.int m) (dpInts K H r)
theorem Src.but {H H' : Hp} {s l : Addr} {ms : List Int} {z b : Int} (h : Src H s l ms z b) (k : Same H H') : Src H' s l ms z b := ⟨k _ _ h.hs, k _ _ h.hl, h.len⟩
theorem layInts : ∀ ms : List Int, PyData.canLayAll0 (ms.map PyData.int) = true
  | [] => rfl
  | m :: r => by
    have h := layInts r
    simp only [List.map_cons, PyData.canLayAll0, PyData.canLay0, h, Bool.and_self]
theorem depthInts : ∀ ms : List Int, PyData.depthAll (ms.map PyData.int) = 0
  | [] => rfl
  | m :: r => by
    have h := depthInts r
    simp only [List.map_cons, PyData.depthAll, PyData.depth, h, Nat.max_self]
theorem shapedInts (ms : List Int) : SeqAt.shaped (.list (ms.map PyData.int)) = true := by
  unfold SeqAt.shaped
  simp only [PyData.canLay0, layInts ms, PyData.depth, depthInts ms]
  rfl
theorem seq0 (n : Nat) : seqIndex? 0 (n + 1) = some 0 := (ixN_seq (n := n + 1) (i := 0) (j := 0) (by unfold ixN; rw [if_pos (by omega), if_pos (by omega)]; rfl)).1
theorem But.upd {s l a : Addr} {H H' : Hp} {o : HO} (h : But s l H H') (e : a = s ∨ a = l) : But s l H (upd H' a o) := fun b u n1 n2 q => by
  rw [upd_ne (fun z => by rcases e with e | e
                          · exact n1 (z.trans e)
                          · exact n2 (z.trans e))]
  exact h b u n1 n2 q
theorem But.fresh {s l a : Addr} {H H' : Hp} {o : HO} (h : But s l H H') (e : H' a = none) : But s l H (L2.upd H' a o) := fun b u n1 n2 q => by
  have q' := h b u n1 n2 q
  rw [upd_ne (ne_of_none q' e)]
  exact q'

section
variable {P : Program} {w : World} {K : PySem.W.Frag} {mg : Str → Option Value} {base : Heap}
theorem scSource : FnScope ["_law_script", "_law_stirred", "_law_cell"] ["_law_script"] (defScope sSource) := ⟨rfl, rfl, rfl, by decide +kernel, rfl, by decide +kernel, by decide +kernel⟩
theorem ok_source {f : Addr} {fd : FuncData} (F : Fun K "_law_source" "_law_source" sSource f fd) (T : TxtA K mg) : FnOk P w K mg base CX0 1 f fd ["_law_script"] (spSource K) := by
  refine F.ok scSource (fun vs H Q E h => ?_) (fun cdv A outer s H vs Q E hr h => ?_)
  · obtain ⟨a, ns, rfl, _⟩ := h
    rfl
  · obtain ⟨a, ns, rfl, hS, hlen, k⟩ := h
    refine ⟨_, pss_cons (ps_set (i := 1) scSource.nd rfl (Or.inl rfl) pe_int)
      (pss_cons (ps_for PassesOwn.never rfl (pi_list (pe_slice sl_list (pv 0) po_none (po_some pe_int))) (pg_name (i := 2) scSource.nd rfl (Or.inl rfl))
        (pss_one (ps_set (i := 1) scSource.nd rfl (Or.inl rfl) (pe_op op_mod (pe_op op_add (pe_op op_add (pe_op op_mul (pv 1) pe_int) (pe_op op_mod (pv 2) pe_int)) pe_int) pe_int))))
      (pss_one (ps_ret (pe_lst (pa_cons (pe_callTy call_list_of (by rfl) T.list (by decide +kernel) (pa_cons (pe_slice sl_list (pv 0) po_none (po_some pe_int)) pa_nil)) (pa_cons (pv 1) (pa_cons pe_int pa_nil))))))), ?_⟩
    refine ⟨_, rfl, _, rfl, a, _, rfl, hS, fun p hp => ?_⟩
    rw [cut60] 
    have s1 : Same H (upd H p (.lst ((ns.take 60).map V.int))) := fun b o e => by
      rw [upd_ne (ne_of_none e hp)]
      exact e
    refine ⟨p, rfl, ⟨_, SqL.of upd_same⟩, for_list (K := K) (a := p) (xs := (ns.take 60).map V.int) (fun i σ H' => ∃ (z : Int) (v : Option V), σ = [some (.ref a), some (.int z), v] ∧ Same H H' ∧ H' p = some (.lst ((ns.take 60).map V.int)))
      ⟨_, _, rfl, s1, upd_same⟩ (fun i σ H' _ ⟨_, _, _, _, e⟩ => SqL.of e) ?_ ?_⟩
    · rintro i y σ H' hi ⟨z, v, rfl, s2, e2⟩
      obtain ⟨u, rfl⟩ := map_ix hi
      refine ⟨_, rfl, _, _, rfl, rfl, .inr (by decide), _, rfl, _, _, rfl, rfl, (by show (0 : Int) < 2147483563; decide), _, _, rfl, rfl, _, _, rfl, rfl, _, _, rfl, rfl, (by show (0 : Int) < 2147483629; decide), ?_⟩
      exact ⟨_, _, rfl, s2, e2⟩
    · rintro σ H' ⟨z, v, rfl, s2, e2⟩
      refine ⟨_, rfl, _, rfl, a, _, rfl, s2.seq hS, fun q hq => ?_⟩
      rw [cut60]
      refine ⟨q, _, rfl, .inl (SqL.of upd_same), fun l hl => ⟨_, rfl, (by show 3 ≤ sizeLine; decide), fun t ht => ?_⟩⟩
      have nq : l ≠ q := fun e => by
        rw [e, upd_same] at hl
        cases hl
      have nt : t ≠ l := fun e => by
        rw [e, upd_same] at ht
        cases ht
      have hl0 : H' l = none := by rw [← hl, upd_ne nq]
      have ht0 : upd H' q (.lst ((ns.take 60).map V.int)) t = none := by rw [← ht, upd_ne nt]
      have ntq : t ≠ q := fun e => by
        rw [e, upd_same] at ht0
        cases ht0
      have ht1 : H' t = none := by rw [← ht0, upd_ne ntq]
      refine k _ t l (ns.take 60) z (fun b o e => ?_) (s2.free ht1) (s2.free hl0) ⟨upd_same, ?_, ?_⟩
      · have e' := s2 b o e
        rw [upd_ne (ne_of_none e' ht1), upd_ne (ne_of_none e' hl0), upd_ne (ne_of_none e' hq)]
        exact e'
      · rw [upd_ne nt.symm, upd_same]
      · rw [List.length_take]
        omega
theorem scDraw : FnScope ["_law_source_here", "_law_many", "_law_number", "_law_cell"] ["_law_source_here", "_law_many"] (defScope sDraw) := ⟨rfl, rfl, rfl, by decide +kernel, rfl, by decide +kernel, by decide +kernel⟩
theorem ok_draw {f : Addr} {fd : FuncData} (F : Fun K "_law_draw" "_law_draw" sDraw f fd) : FnOk P w K mg base CX0 1 f fd ["_law_source_here", "_law_many"] spDraw := by
  refine F.ok scDraw (fun vs H Q E h => ?_) (fun cdv A outer s H vs Q E hr h => ?_)
  · obtain ⟨s, l, ms, z, b, m, rfl, _⟩ := h
    rfl
  · obtain ⟨a, l, ms, z, b, m, rfl, hs, m0, m1, b0, b1, k⟩ := h
    refine ⟨_, pss_cons (ps_asg (pe_op op_add (pe_ix ix_list (pv 0) pe_int (fun _ _ => rfl)) pe_int) (pg_sub (pv 0) pe_int set_list))
      (pss_cons (ps_set (i := 2) scDraw.nd rfl (Or.inl rfl) (pe_op op_add (pe_ix ix_list (pv 0) pe_int (fun _ _ => rfl)) (pe_op op_mul (pe_op op_mul pe_int (pe_ix ix_list (pv 0) pe_int (fun _ _ => rfl))) (pe_ix ix_list (pv 0) pe_int (fun _ _ => rfl)))))
      (pss_cons (ps_if (pt_cmpR (op_neD hr.units) (pe_ix ix_list (pv 0) pe_int (fun _ _ => rfl)) (pe_lst pa_nil) (nomark _))
        (pss_cons (ps_set (i := 3) scDraw.nd rfl (Or.inl rfl) (pe_bm PySem.F.plainAttrs_list PySem.F.slot_list_pop PySem.F.type_list_pop mt_popAt (pe_ix ix_list (pv 0) pe_int (fun _ _ => rfl)) (pa_cons pe_int pa_nil)))
        (pss_cons (ps_if (pt_cmpR op_ge (pv 3) (pe_op op_pow pe_int pe_int) (nomark _))
          (pss_cons (ps_expr (pe_bm PySem.F.plainAttrs_list PySem.F.slot_list_insert PySem.F.type_list_insert mt_insert (pe_ix ix_list (pv 0) pe_int (fun _ _ => rfl)) (pa_cons pe_int (pa_cons (pe_op op_fdiv (pv 3) (pv 1)) pa_nil))))
          (pss_one (ps_ret (pe_op op_mod (pv 3) (pv 1))))) pss_nil)
        (pss_one (ps_set (i := 2) scDraw.nd rfl (Or.inl rfl) (pe_op op_add (pv 2) (pv 3))))))
        pss_nil)
      (pss_cons (ps_set (i := 2) scDraw.nd rfl (Or.inl rfl) (pe_op op_mod (pe_op op_mul (pe_op op_mod (pv 2) pe_int) pe_int) pe_int))
      (pss_cons (ps_set (i := 2) scDraw.nd rfl (Or.inl rfl) (pe_op op_mod (pe_op op_add (pe_op op_add (pe_op op_mul (pv 2) (pv 2)) (pe_op op_mul pe_int (pv 2))) pe_int) pe_int))
      (pss_one (ps_ret (pe_op op_mod (pe_op op_fdiv (pe_op op_mod (pe_op op_mul (pv 2) pe_int) pe_int) pe_int) (pv 1)))))))), ?_⟩
    have hal := hs.ne
    refine ⟨_, rfl, _, _, _, _, rfl, rfl, SqL.of hs.hs, rfl, _, _, rfl, rfl, _, rfl, _, _, _, _, rfl, rfl, hs.hs, rfl, ?_⟩
    show tSeq _ _ _ _ (upd H a (.lst [.ref l, .int z, .int (b + 1)]))
    generalize hH1 : upd H a (.lst [.ref l, .int z, .int (b + 1)]) = H1
    have hs1 : Src H1 a l ms z (b + 1) := by
      rw [← hH1]
      exact ⟨upd_same, by rw [upd_ne hal.symm]; exact hs.hl, hs.len⟩
    have k1 : But a l H H1 := by
      rw [← hH1]
      exact But.upd (fun b o _ _ e => e) (.inl rfl)
    refine ⟨_, rfl, _, _, _, _, rfl, rfl, SqL.of hs1.hs, rfl, _, rfl, _, _, _, _, rfl, rfl, SqL.of hs1.hs, rfl, _, _, rfl, rfl, .inl (by decide), _, rfl, _, _, _, _, rfl, rfl, SqL.of hs1.hs, rfl, _, _, rfl, rfl, .inr ⟨by omega, by omega⟩, _, _, rfl, rfl, ?_⟩
    refine ⟨_, rfl, _, _, _, _, rfl, rfl, SqL.of hs1.hs, rfl, Nat.zero_le _, fun p hp => ?_⟩
    have hs2 : Src (upd H1 p (.lst [])) a l ms z (b + 1) := hs1.but fun b o e => by
      rw [upd_ne (ne_of_none e hp)]
      exact e
    have k2 : But a l H (upd H1 p (.lst [])) := k1.fresh hp
    refine ⟨_, _, .lst (SqL.of hs2.hl) (dpInts K _ ms), .lst (SqL.of upd_same) .nil, shapedInts ms, rfl, _, rfl, ?_⟩
    generalize upd H1 p (.lst []) = H2 at hs2 k2 ⊢
    cases ms with
    | nil =>
      refine iteF ?_
      refine ⟨_, rfl, _, _, rfl, rfl, (by show (0 : Int) < 2147483563; decide), _, _, rfl, rfl, .inr (by decide), _, _, rfl, rfl, (by show (0 : Int) < 2147483647; decide), ?_⟩
      refine ⟨_, rfl, _, rfl, _, _, rfl, rfl, .inl ⟨?_, ?_⟩, _, rfl, _, _, rfl, rfl, .inl (by decide), _, _, rfl, rfl, _, _, rfl, rfl, _, _, rfl, rfl, (by show (0 : Int) < 2147483587; decide), ?_⟩
      · omega
      · omega
      refine ⟨_, rfl, _, _, rfl, rfl, .inr (by decide), _, _, rfl, rfl, (by show (0 : Int) < 2147483629; decide), _, _, rfl, rfl, ⟨by decide, by decide⟩, _, rfl, _, _, rfl, rfl, m0, ?_⟩
      exact k _ _ _ k2 hs2 (Int.emod_nonneg _ (by omega)) (Int.emod_lt_of_pos _ m0)
    | cons c r =>
      have hr : r.length + 1 ≤ 63 := hs2.len
      refine iteT ?_
      refine ⟨_, rfl, _, _, _, _, rfl, rfl, SqL.of hs2.hs, rfl, .inl ⟨rfl, _, SqL.of hs2.hl⟩, l, _, 0, 0, .int c, rfl, rfl, hs2.hl, by decide, by decide, seq0 _, rfl, ?_⟩
      have hs3 : Src (upd H2 l (.lst (r.map V.int))) a l r z (b + 1) := ⟨by rw [upd_ne hal]; exact hs2.hs, upd_same, by omega⟩
      have k3 : But a l H (upd H2 l (.lst (r.map V.int))) := k2.upd (.inr rfl)
      show tSeq _ _ _ _ (upd H2 l (.lst (r.map V.int)))
      generalize upd H2 l (.lst (r.map V.int)) = H3 at hs3 k3 ⊢
      refine ⟨_, rfl, _, _, rfl, rfl, ⟨by decide, by decide, by decide⟩, _, _, rfl, rfl, _, rfl, ?_⟩
      refine ite2 (fun _ => ?_) (fun _ => ?_)
      · refine ⟨_, rfl, _, _, _, _, rfl, rfl, SqL.of hs3.hs, rfl, .inl ⟨rfl, _, SqL.of hs3.hl⟩, _, rfl, _, rfl, _, _, rfl, rfl, ⟨m0, by omega⟩, l, _, _, _, rfl, rfl, hs3.hl, ?_, by decide, by decide, ?_⟩
        · rw [List.length_map]
          show r.length < 16777216
          omega
        refine ⟨_, rfl, _, rfl, _, _, rfl, rfl, m0, ?_⟩
        exact k _ (c / m :: r) _ (k3.upd (.inr rfl)) ⟨by rw [upd_ne hal]; exact hs3.hs, upd_same, hr⟩ (Int.emod_nonneg _ (by omega)) (Int.emod_lt_of_pos _ m0)
      · refine ⟨_, rfl, _, rfl, _, _, rfl, rfl, ?_⟩
        refine ⟨_, rfl, _, _, rfl, rfl, (by show (0 : Int) < 2147483563; decide), _, _, rfl, rfl, .inr (by decide), _, _, rfl, rfl, (by show (0 : Int) < 2147483647; decide), ?_⟩
        refine ⟨_, rfl, _, rfl, _, _, rfl, rfl, .inl ⟨?_, ?_⟩, _, rfl, _, _, rfl, rfl, .inl (by decide), _, _, rfl, rfl, _, _, rfl, rfl, _, _, rfl, rfl, (by show (0 : Int) < 2147483587; decide), ?_⟩
        · omega
        · omega
        refine ⟨_, rfl, _, _, rfl, rfl, .inr (by decide), _, _, rfl, rfl, (by show (0 : Int) < 2147483629; decide), _, _, rfl, rfl, ⟨by decide, by decide⟩, _, rfl, _, _, rfl, rfl, m0, ?_⟩
        exact k _ _ _ k3 hs3 (Int.emod_nonneg _ (by omega)) (Int.emod_lt_of_pos _ m0)
end
end Vm
namespace Vm
open PySem L2
/-! data of any kind as trees: how it lies in the abstract heap, its text by repr, its type -/
inductive Tr where
  | non | bl (b : Bool) | int (i : Int) | str (x : Str) | lst (xs : List Tr) | tup (xs : List Tr) | dct (ks : List Key) (xs : List Tr)
def keyText : Key → Str
  | .inl i => toString i
  | .inr z => reprText z
def keyFits : Key → Prop
  | .inl i => i.natAbs.log2 < 1920
  | .inr z => (reprText z).length ≤ sizeLine
def entryText (k v : Str) : Str := k ++ ": " ++ v
mutual
def Tr.text : Tr → Str
  | .non => "None"
  | .bl b => if b then "True" else "False"
  | .int i => toString i
  | .str x => reprText x
  | .lst xs => listText (texts xs)
  | .tup xs => tupleText (texts xs)
  | .dct ks xs => dictText (List.zipWith entryText (ks.map keyText) (texts xs))
def texts : List Tr → List Str
  | [] => []
  | x :: r => x.text :: texts r
end
theorem texts_map : ∀ ts : List Tr, texts ts = ts.map Tr.text
  | [] => rfl
  | t :: r => by
    show t.text :: texts r = _
    rw [texts_map r]
    rfl
/-- an empty tuple of the module's own -/
def KTup (K : PySem.W.Frag) (a : Addr) : Prop := ∃ (o : Obj) (its : Array Value) (n : Nat), K.lookup a = some o ∧ o.cls = .type "tuple" ∧ o.data = .seq its n ∧ its.size ≤ sizeLine ∧ Vals [] its.toList
mutual
/-- v is data of the tree t, at most n deep, its own objects at bs -/
inductive Dt (K : PySem.W.Frag) (H : Hp) : V → Tr → Nat → List Addr → Prop
  | non {n : Nat} : Dt K H .non .non n []
  | bl {n : Nat} (b : Bool) : Dt K H (.bl b) (.bl b) n []
  | int {n : Nat} {i : Int} (h : i.natAbs.log2 < 1920) : Dt K H (.int i) (.int i) n []
  | str {n : Nat} {x : Str} (h : (reprText x).length ≤ sizeLine) (hz : x.length ≤ sizeLine) : Dt K H (.str x) (.str x) n []
  | lst {n : Nat} {a : Addr} {xs : List V} {ts : List Tr} {bs : List Addr} (h : H a = some (.lst xs)) (r : DtAll K H xs ts n bs) (na : a ∉ bs) : Dt K H (.ref a) (.lst ts) (n + 1) (a :: bs)
  | emp {n : Nat} {a : Addr} (h : KTup K a) : Dt K H (.ref a) (.tup []) (n + 1) []
  | tup {n : Nat} {a : Addr} {ob : Obj} {xs : List V} {ts : List Tr} {bs : List Addr} (h : H a = some (.frz ob (.tup xs))) (nd : ob.dict = none) (r : DtAll K H xs ts n bs) (na : a ∉ bs) : Dt K H (.ref a) (.tup ts) (n + 1) (a :: bs)
  | dct {n : Nat} {a : Addr} {kvs : List (Key × V)} {ts : List Tr} {bs : List Addr} (h : H a = some (.dK kvs)) (kf : ∀ p ∈ kvs, keyFits p.1) (r : DtAll K H (kvs.map (·.2)) ts n bs) (na : a ∉ bs) : Dt K H (.ref a) (.dct (kvs.map (·.1)) ts) (n + 1) (a :: bs)
inductive DtAll (K : PySem.W.Frag) (H : Hp) : List V → List Tr → Nat → List Addr → Prop
  | nil {n : Nat} : DtAll K H [] [] n []
  | cons {n : Nat} {v : V} {vs : List V} {x : Tr} {xs : List Tr} {bs cs : List Addr} (h : Dt K H v x n bs) (r : DtAll K H vs xs n cs) : DtAll K H (v :: vs) (x :: xs) n (bs ++ cs)
end
mutual
theorem Dt.lvl {K : PySem.W.Frag} {H : Hp} : ∀ {v : V} {x : Tr} {n m : Nat} {bs : List Addr}, Dt K H v x n bs → n ≤ m → Dt K H v x m bs
  | _, _, _, _, _, .non, _ => .non
  | _, _, _, _, _, .bl b, _ => .bl b
  | _, _, _, _, _, .int h, _ => .int h
  | _, _, _, _, _, .str h hz, _ => .str h hz
  | _, _, _, 0, _, .lst _ _ _, l => absurd l (by omega)
  | _, _, _, _ + 1, _, .lst h r na, l => .lst h (r.lvl (Nat.le_of_succ_le_succ l)) na
  | _, _, _, 0, _, .emp _, l => absurd l (by omega)
  | _, _, _, _ + 1, _, .emp h, l => .emp h
  | _, _, _, 0, _, .tup _ _ _ _, l => absurd l (by omega)
  | _, _, _, _ + 1, _, .tup h nd r na, l => .tup h nd (r.lvl (Nat.le_of_succ_le_succ l)) na
  | _, _, _, 0, _, .dct _ _ _ _, l => absurd l (by omega)
  | _, _, _, _ + 1, _, .dct h kf r na, l => .dct h kf (r.lvl (Nat.le_of_succ_le_succ l)) na
theorem DtAll.lvl {K : PySem.W.Frag} {H : Hp} : ∀ {v : List V} {x : List Tr} {n m : Nat} {bs : List Addr}, DtAll K H v x n bs → n ≤ m → DtAll K H v x m bs
  | _, _, _, _, _, .nil, _ => .nil
  | _, _, _, _, _, .cons h r, l => .cons (h.lvl l) (r.lvl l)
end
mutual
theorem Dt.keep {K : PySem.W.Frag} {H H' : Hp} : ∀ {v : V} {x : Tr} {n : Nat} {bs : List Addr}, Dt K H v x n bs → (∀ b ∈ bs, ∀ o, H b = some o → H' b = some o) → Dt K H' v x n bs
  | _, _, _, _, .non, _ => .non
  | _, _, _, _, .bl b, _ => .bl b
  | _, _, _, _, .int h, _ => .int h
  | _, _, _, _, .str h hz, _ => .str h hz
  | _, _, _, _, .lst h r na, k => .lst (k _ List.mem_cons_self _ h) (r.keep fun b hb => k b (List.mem_cons_of_mem _ hb)) na
  | _, _, _, _, .emp h, k => .emp h
  | _, _, _, _, .tup h nd r na, k => .tup (k _ List.mem_cons_self _ h) nd (r.keep fun b hb => k b (List.mem_cons_of_mem _ hb)) na
  | _, _, _, _, .dct h kf r na, k => .dct (k _ List.mem_cons_self _ h) kf (r.keep fun b hb => k b (List.mem_cons_of_mem _ hb)) na
theorem DtAll.keep {K : PySem.W.Frag} {H H' : Hp} : ∀ {v : List V} {x : List Tr} {n : Nat} {bs : List Addr}, DtAll K H v x n bs → (∀ b ∈ bs, ∀ o, H b = some o → H' b = some o) → DtAll K H' v x n bs
  | _, _, _, _, .nil, _ => .nil
  | _, _, _, _, .cons h r, k => .cons (h.keep fun b hb => k b (List.mem_append_left _ hb)) (r.keep fun b hb => k b (List.mem_append_right _ hb))
end
mutual
/-- its objects stand -/
theorem Dt.there {K : PySem.W.Frag} {H : Hp} : ∀ {v : V} {x : Tr} {n : Nat} {bs : List Addr}, Dt K H v x n bs → ∀ b ∈ bs, ∃ o, H b = some o
  | _, _, _, _, .non => fun _ h => nomatch h
  | _, _, _, _, .bl b => fun _ h => nomatch h
  | _, _, _, _, .int h => fun _ h => nomatch h
  | _, _, _, _, .str h hz => fun _ h => nomatch h
  | _, _, _, _, .lst h r na => fun b hb => (List.mem_cons.mp hb).elim (fun e => ⟨_, e ▸ h⟩) (DtAll.there r b)
  | _, _, _, _, .emp h => fun _ h => nomatch h
  | _, _, _, _, .tup h nd r na => fun b hb => (List.mem_cons.mp hb).elim (fun e => ⟨_, e ▸ h⟩) (DtAll.there r b)
  | _, _, _, _, .dct h kf r na => fun b hb => (List.mem_cons.mp hb).elim (fun e => ⟨_, e ▸ h⟩) (DtAll.there r b)
theorem DtAll.there {K : PySem.W.Frag} {H : Hp} : ∀ {v : List V} {x : List Tr} {n : Nat} {bs : List Addr}, DtAll K H v x n bs → ∀ b ∈ bs, ∃ o, H b = some o
  | _, _, _, _, .nil => fun _ h => nomatch h
  | _, _, _, _, .cons h r => fun b hb => (List.mem_append.mp hb).elim (Dt.there h b) (DtAll.there r b)
end
theorem DtAll.length {K : PySem.W.Frag} {H : Hp} : ∀ {v : List V} {x : List Tr} {n : Nat} {bs : List Addr}, DtAll K H v x n bs → v.length = x.length
  | _, _, _, _, .nil => rfl
  | _, _, _, _, .cons _ r => congrArg (· + 1) r.length
theorem DtAll.append {K : PySem.W.Frag} {H : Hp} : ∀ {v v' : List V} {x x' : List Tr} {n : Nat} {bs cs : List Addr}, DtAll K H v x n bs → DtAll K H v' x' n cs → DtAll K H (v ++ v') (x ++ x') n (bs ++ cs)
  | _, _, _, _, _, _, _, .nil, s => s
  | _, _, _, _, _, _, _, .cons (bs := b1) (cs := b2) h r, s => by
    rw [List.append_assoc]
    exact .cons h (r.append s)
/-- the item at i -/
theorem DtAll.get {K : PySem.W.Frag} {H : Hp} : ∀ {vs : List V} {ts : List Tr} {n : Nat} {bs : List Addr}, DtAll K H vs ts n bs → ∀ {i : Nat} {v : V}, vs[i]? = some v → ∃ t cs, ts[i]? = some t ∧ Dt K H v t n cs ∧ ∀ c ∈ cs, c ∈ bs
  | _, _, _, _, .nil, _, _, e => nomatch e
  | _, _, _, _, .cons h r, 0, _, e => ⟨_, _, rfl, Option.some.inj e ▸ h, fun c hc => List.mem_append_left _ hc⟩
  | _, _, _, _, .cons h r, i + 1, _, e => by
    obtain ⟨t, cs, e1, d, k⟩ := r.get (i := i) e
    exact ⟨t, cs, e1, d, fun c hc => List.mem_append_right _ (k c hc)⟩
/-- a part of it -/
theorem DtAll.part {K : PySem.W.Frag} {H : Hp} {n : Nat} : ∀ {vs : List V} {ts : List Tr} {bs : List Addr}, DtAll K H vs ts n bs → ∀ i, (∃ cs, DtAll K H (vs.take i) (ts.take i) n cs ∧ ∀ c ∈ cs, c ∈ bs) ∧ ∃ cs, DtAll K H (vs.drop i) (ts.drop i) n cs ∧ ∀ c ∈ cs, c ∈ bs
  | _, _, _, .nil, i => ⟨⟨[], by simpa using .nil, fun _ h => nomatch h⟩, ⟨[], by simpa using .nil, fun _ h => nomatch h⟩⟩
  | _, _, _, .cons h r, 0 => ⟨⟨[], .nil, fun _ h => nomatch h⟩, ⟨_, .cons h r, fun _ z => z⟩⟩
  | _, _, _, .cons (bs := b1) h r, i + 1 => by
    obtain ⟨⟨cs, d, k⟩, ⟨cs', d', k'⟩⟩ := r.part i
    exact ⟨⟨b1 ++ cs, .cons h d, fun c hc => (List.mem_append.mp hc).elim (List.mem_append_left _) fun z => List.mem_append_right _ (k c z)⟩, ⟨cs', d', fun c hc => List.mem_append_right _ (k' c hc)⟩⟩
/-! types -/
def tyOf : Tr → String
  | .non => "NoneType"
  | .bl _ => "bool"
  | .int _ => "int"
  | .str _ => "str"
  | .lst _ => "list"
  | .tup _ => "tuple"
  | .dct _ _ => "dict"
theorem Dt.ty {K : PySem.W.Frag} {H : Hp} : ∀ {v : V} {t : Tr} {n : Nat} {bs : List Addr}, Dt K H v t n bs → TyX K H v (.type (tyOf t))
  | _, _, _, _, .non => .base .non
  | _, _, _, _, .bl b => .base (.bl b)
  | _, _, _, _, .int h => .base (.int _)
  | _, _, _, _, .str h hz => .base (.str _)
  | _, _, _, _, .lst h r na => .base (.lst h)
  | _, _, _, _, .emp h => let ⟨o, _, _, e, c, _⟩ := h; .kTuple e c
  | _, _, _, _, .tup h nd r na => .fTuple h
  | _, _, _, _, .dct h kf r na => .base (.dK h)
def isStr : Tr → Bool
  | .str _ => true
  | _ => false
def isTup : Tr → Bool
  | .tup _ => true
  | _ => false
def isBl : Tr → Bool
  | .bl _ => true
  | _ => false
def isInt : Tr → Bool
  | .bl _ => true
  | .int _ => true
  | _ => false
theorem kit_str {K : PySem.W.Frag} (t : Tr) : PySem.W.kitOne K (.type (tyOf t)) (.type "str") = some (isStr t) := by
  cases t <;> (dsimp only [tyOf, isStr]; exact kit_ty (by decide +kernel))
theorem kit_tup {K : PySem.W.Frag} (t : Tr) : PySem.W.kitOne K (.type (tyOf t)) (.type "tuple") = some (isTup t) := by
  cases t <;> (dsimp only [tyOf, isTup]; exact kit_ty (by decide +kernel))
theorem kit_bl {K : PySem.W.Frag} (t : Tr) : PySem.W.kitOne K (.type (tyOf t)) (.type "bool") = some (isBl t) := by
  cases t <;> (dsimp only [tyOf, isBl]; exact kit_ty (by decide +kernel))
theorem kit_int {K : PySem.W.Frag} (t : Tr) : PySem.W.kitOne K (.type (tyOf t)) (.type "int") = some (isInt t) := by
  cases t <;> (dsimp only [tyOf, isInt]; exact kit_ty (by decide +kernel))
section
variable {X : Cx} {pins : List (Addr × Obj)} {σ : St} {H : Hp} {s : Shared}
/-- keys and values of a dict's entries -/
theorem pairs_keys {P : Program} {w : World} {h : Heap} {bs : List Addr} {n : Nat} : ∀ {kvs : List (Key × V)} {vs : List (Key × Value)} {es : List DictEntry}, KV kvs vs → PySem.Pairs (mixKind P w) es vs → (∀ p ∈ kvs, keyFits p.1) →
    ReprAllK P w bs h n (es.map (·.key)) ((kvs.map (·.1)).map keyText) ∧ es.map (·.val) = vs.map (·.2) ∧ Vals (kvs.map (·.2)) (vs.map (·.2))
  | _, _, _, .nil, .nil, _ => ⟨.nil, rfl, .nil⟩
  | (k, v) :: kvs, _, _, .cons (b := b) r rs, .cons e ev es, kf => by
    obtain ⟨h1, h2, h3⟩ := pairs_keys (h := h) (bs := bs) (n := n) rs es fun p hp => kf p (List.mem_cons_of_mem _ hp)
    obtain ⟨r1, r2⟩ := r
    refine ⟨.cons ?_ h1, by rw [List.map_cons, List.map_cons, h2, ev], .cons r2 h3⟩
    have hk := kf (k, v) List.mem_cons_self
    obtain ⟨b1, b2⟩ := b
    dsimp only at r1 e ⊢
    subst r1
    rcases keyIs_shape e with ⟨i, t, rfl, q⟩ | ⟨x, t, rfl, q⟩
    · rw [q]
      exact .of_is (ReprIs.int t hk) _ _ _
    · rw [q]
      exact .of_is (ReprIs.str x t hk) _ _ _
/-- the addresses that a repr goes through: the value's own ones, and empty tuples of the module -/
def Mine (K : PySem.W.Frag) (bs cs : List Addr) : Prop := ∀ c ∈ cs, c ∈ bs ∨ KTup K c
theorem Mine.not {bs cs : List Addr} {a : Addr} (I : Inv X pins σ H s) (m : Mine X.K bs cs) {o : HO} (h : H a = some o) (na : a ∉ bs) : a ∉ cs := fun z => by
  rcases m a z with q | ⟨ob, _, _, e, _⟩
  · exact na q
  · have e2 := (I.bs a ob (I.ok.mod.kin a ob e)).2
    rw [h] at e2
    cases e2
mutual
theorem Dt.repr (I : Inv X pins σ H s) : ∀ {v : V} {x : Tr} {n : Nat} {bs : List Addr} {u : Value}, Dt X.K H v x n bs → RelV v u → ∃ cs, Mine X.K bs cs ∧ ReprK X.prog X.w cs s.heap n u x.text
  | _, _, _, _, _, .non, r => by
    cases r
    exact ⟨[], (fun _ h => nomatch h), .of_is ReprIs.none _ _ _⟩
  | _, _, _, _, _, .bl b, r => by
    cases r
    exact ⟨[], (fun _ h => nomatch h), .of_is (ReprIs.bool b) _ _ _⟩
  | _, _, _, _, _, .int h, r => by
    obtain ⟨t, rfl⟩ := r
    exact ⟨[], (fun _ h => nomatch h), .of_is (ReprIs.int t h) _ _ _⟩
  | _, _, _, _, _, .str h hz, r => by
    obtain ⟨t, rfl⟩ := r
    exact ⟨[], (fun _ h => nomatch h), .of_is (ReprIs.str _ t h) _ _ _⟩
  | _, _, _, _, _, .lst (a := a) h rs na, r => by
    cases r
    obtain ⟨z, its, n', rv, e⟩ := I.hok _ _ h
    obtain ⟨cs, m, q⟩ := DtAll.repr I rs rv
    refine ⟨a :: cs, fun c hc => (List.mem_cons.mp hc).elim (fun q => .inl (q ▸ List.mem_cons_self)) fun q => (m c q).imp_left (List.mem_cons_of_mem _), ?_⟩
    have na' := m.not I h na
    cases its with
    | nil =>
      cases rv
      cases rs
      have e2 : listText [] = "[]" := listText_nil
      show ReprK _ _ _ _ _ _ (listText [])
      rw [e2]
      exact (ReprK.listEmpty e rfl rfl).more fun b hb => List.mem_cons.mpr (.inl (List.mem_singleton.mp hb))
    | cons y ys => exact ReprK.list e rfl rfl na' (by simpa using q.length_eq) fun i y' e' => q.item i y' (by simpa using e')
  | _, _, _, _, _, .emp (a := a) h, r => by
    cases r
    obtain ⟨its, rv, ⟨o, e, c, n', d⟩, _⟩ := I.tuple (.inr h)
    cases rv
    exact ⟨[a], (fun c hc => .inr (List.mem_singleton.mp hc ▸ h)), ReprK.tuple e c d (by simp) .nil⟩
  | _, _, _, _, _, .tup (a := a) h nd rs na, r => by
    cases r
    obtain ⟨_, z, its, rv, o, e, c, n', d⟩ := I.hok _ _ h
    obtain ⟨cs, m, q⟩ := DtAll.repr I rs rv
    exact ⟨a :: cs, (fun c hc => (List.mem_cons.mp hc).elim (fun q => .inl (q ▸ List.mem_cons_self)) fun q => (m c q).imp_left (List.mem_cons_of_mem _)), ReprK.tuple e c d (m.not I h na) (by simpa using q)⟩
  | _, _, _, _, _, .dct (a := a) h kf rs na, r => by
    cases r
    obtain ⟨z, hs, vs, kv, o, es, ep, e, ex, d, ko, ps, nd⟩ := I.hok _ _ h
    obtain ⟨_, q2, q3⟩ := pairs_keys (h := s.heap) (bs := []) (n := 0) kv ps kf
    obtain ⟨cs, m, q⟩ := DtAll.repr I rs q3
    obtain ⟨q1, _, _⟩ := pairs_keys kv ps kf
    refine ⟨a :: cs, (fun c hc => (List.mem_cons.mp hc).elim (fun q => .inl (q ▸ List.mem_cons_self)) fun q => (m c q).imp_left (List.mem_cons_of_mem _)), ReprK.dict e ex.1 d hs (m.not I h na) (ReprEntriesK.of_two es.toList _ _ q1 ?_)⟩
    rw [q2]
    exact q
theorem DtAll.repr (I : Inv X pins σ H s) : ∀ {vs : List V} {xs : List Tr} {n : Nat} {bs : List Addr} {us : List Value}, DtAll X.K H vs xs n bs → Vals vs us → ∃ cs, Mine X.K bs cs ∧ ReprAllK X.prog X.w cs s.heap n us (texts xs)
  | _, _, _, _, _, .nil, .nil => ⟨[], (fun _ h => nomatch h), .nil⟩
  | _, _, _, _, _, .cons (bs := b1) (cs := b2) h rs, .cons r t => by
    obtain ⟨c1, m1, q1⟩ := Dt.repr I h r
    obtain ⟨c2, m2, q2⟩ := DtAll.repr I rs t
    exact ⟨c1 ++ c2, (fun c hc => (List.mem_append.mp hc).elim (fun q => (m1 c q).imp_left (List.mem_append_left _)) fun q => (m2 c q).imp_left (List.mem_append_right _)),
      .cons (q1.more fun b hb => List.mem_append_left _ hb) (q2.more_le (fun b hb => List.mem_append_right _ hb) (Nat.le_refl _))⟩
end
/-- repr(data) -/
def rRepr (K : PySem.W.Frag) : List V → Hp → VK → Prop := fun xs H Q => ∃ (v : V) (t : Tr) (n : Nat) (bs : List Addr), xs = [v] ∧ Dt K H v t n bs ∧ n ≤ 8 ∧ t.text.length ≤ sizeLine ∧ Q (.str t.text) H
theorem call_reprT (hg : X.A.guards = some []) (hu : X.A.units + 16 < cLine) : CallR X (.builtin "repr") (rRepr X.K) := by
  intro pins s σ H xs us Q I r h
  obtain ⟨v, t, n, bs, rfl, d, hn, hx, q⟩ := h
  obtain ⟨u, rfl, rv⟩ := vals1 r
  have fin : ∀ (h' : Heap) (tk : Tok) (k : Nat), (∀ b o, s.heap.get? b = some o → h'.get? b = some o) → EP X pins σ Q (.str t.text tk) { s with heap := h', toks := k } := fun h' tk k kk => ⟨.str t.text, H, I.kept kk, ⟨tk, rfl⟩, q⟩
  cases d with
  | non =>
    cases rv
    exact PySem.P.repr_of_none (fin s.heap _ _ fun _ _ e => e)
  | bl b =>
    cases rv
    exact PySem.P.repr_of_bool (fin s.heap _ _ fun _ _ e => e)
  | int hi =>
    obtain ⟨t, rfl⟩ := rv
    exact PySem.P.repr_of_int hi (fin s.heap _ _ fun _ _ e => e)
  | str hz _ =>
    obtain ⟨t, rfl⟩ := rv
    exact PySem.P.repr_of_str (fin s.heap _ _ fun _ _ e => e) hz
  | @lst n0 a xs ts bs hl rs na =>
    cases rv
    obtain ⟨z, its, n', rv', e⟩ := I.hok _ _ hl
    obtain ⟨cs, m, k⟩ := DtAll.repr I rs rv'
    have na' := m.not I hl na
    refine call_repr_slot (by omega) ⟨_, e, rfl⟩ PySem.F.slot_list_repr.toG ?_
    cases its with
    | nil =>
      cases rv'
      cases rs
      exact call_list_repr_empty ⟨_, e, rfl⟩ e rfl ⟨_, _, rfl, fin s.heap _ _ fun _ _ q => q⟩
    | cons y ys =>
      exact call_list_reprK e rfl rfl na' (by simpa using k.length_eq) (fun i y' e' => k.item i y' (by simpa using e')) (g := []) hg (fun b _ => Clear.nil b) (by show X.A.units + 1 + _ < _; omega) (fun _ _ q => q)
        (fun h' t tk kk => ⟨_, _, rfl, fin h' t tk kk⟩) hx
  | @emp n0 a h =>
    cases rv
    obtain ⟨its, rv', ⟨o, e, c, n', dd⟩, _⟩ := I.tuple (.inr h)
    cases rv'
    exact call_repr_slot (by omega) ⟨_, e, c⟩ PySem.F.slot_tuple_repr
      (call_tuple_reprK (as := []) (d := 0) e c dd (by simp) .nil (g := []) hg (fun b _ => Clear.nil b) (by show X.A.units + 1 + _ < _; omega) (fun _ _ q => q) (fun h' t tk kk => ⟨_, _, rfl, fin h' t tk kk⟩) hx)
  | @tup n0 a ob xs ts bs hl nd rs na =>
    cases rv
    obtain ⟨_, z, its, rv', o, e, c, n', dd⟩ := I.hok _ _ hl
    obtain ⟨cs, m, k⟩ := DtAll.repr I rs rv'
    exact call_repr_slot (by omega) ⟨_, e, c⟩ PySem.F.slot_tuple_repr
      (call_tuple_reprK e c dd (m.not I hl na) (by simpa using k) (g := []) hg (fun b _ => Clear.nil b) (by show X.A.units + 1 + _ < _; omega) (fun _ _ q => q) (fun h' t tk kk => ⟨_, _, rfl, fin h' t tk kk⟩) hx)
  | @dct n0 a kvs ts bs hl kf rs na =>
    cases rv
    obtain ⟨z, hs, vs, kv, o, es, ep, e, ex, dd, ko, ps, nd⟩ := I.hok _ _ hl
    obtain ⟨_, q2, q3⟩ := pairs_keys (h := s.heap) (bs := []) (n := 0) kv ps kf
    obtain ⟨cs, m, k⟩ := DtAll.repr I rs q3
    obtain ⟨q1, _, _⟩ := pairs_keys kv ps kf
    refine call_repr_slot (by omega) ⟨_, e, ex.1⟩ PySem.F.slot_dict_repr
      (call_dict_reprK (d := n0) (as := cs) e ex.1 dd hs (m.not I hl na) (ReprEntriesK.of_two es.toList _ _ q1 ?_) (g := []) hg (fun b _ => Clear.nil b) (by show X.A.units + 1 + _ < _; omega) (fun _ _ q => q) (fun h' t tk kk => ⟨_, _, rfl, fin h' t tk kk⟩) hx)
    rw [q2]
    exact k
end
/-- a tuple among the data -/
theorem Dt.tupOf {K : PySem.W.Frag} {H : Hp} {v : V} {t : Tr} {n : Nat} {bs : List Addr} (d : Dt K H v t n bs) (h : isTup t = true) : ∃ (a : Addr) (xs : List V) (ts : List Tr) (m : Nat) (cs : List Addr), v = .ref a ∧ t = .tup ts ∧ m < n ∧ SqT K H a xs ∧ DtAll K H xs ts m cs ∧ ∀ c ∈ cs, c ∈ bs := by
  cases d with
  | @tup n a ob xs ts bs e nd r na => exact ⟨a, xs, ts, n, bs, rfl, rfl, Nat.lt_succ_self _, .inl (.inr ⟨_, e⟩), r, fun c hc => List.mem_cons_of_mem _ hc⟩
  | @emp n a e => exact ⟨a, [], [], n, [], rfl, rfl, Nat.lt_succ_self _, .inr e, .nil, fun _ h => nomatch h⟩
  | _ => cases h
/-- a tuple: the module's empty one, or one that was made here, whose object has no dict -/
def TupE (K : PySem.W.Frag) (H : Hp) (a : Addr) (xs : List V) : Prop := (xs = [] ∧ KTup K a) ∨ ∃ o : Obj, H a = some (.frz o (.tup xs)) ∧ o.dict = none
theorem TupE.sq {K : PySem.W.Frag} {H : Hp} {a : Addr} {xs : List V} (h : TupE K H a xs) : SqT K H a xs := by
  rcases h with ⟨rfl, h⟩ | ⟨o, h, _⟩
  · exact .inr h
  · exact .inl (.inr ⟨o, h⟩)
theorem TupE.same {K : PySem.W.Frag} {H H' : Hp} {a : Addr} {xs : List V} (k : Same H H') (h : TupE K H a xs) : TupE K H' a xs := h.imp id fun ⟨o, h, d⟩ => ⟨o, k _ _ h, d⟩
theorem Dt.tupD {K : PySem.W.Frag} {H : Hp} {v : V} {t : Tr} {n : Nat} {bs : List Addr} (d : Dt K H v t n bs) (h : isTup t = true) : ∃ (a : Addr) (xs : List V) (ts : List Tr) (m : Nat) (cs : List Addr), v = .ref a ∧ t = .tup ts ∧ m < n ∧ TupE K H a xs ∧ DtAll K H xs ts m cs ∧ ∀ c ∈ cs, c ∈ bs := by
  cases d with
  | @tup n a ob xs ts bs e nd r na => exact ⟨a, xs, ts, n, bs, rfl, rfl, Nat.lt_succ_self _, .inr ⟨_, e, nd⟩, r, fun c hc => List.mem_cons_of_mem _ hc⟩
  | @emp n a e => exact ⟨a, [], [], n, [], rfl, rfl, Nat.lt_succ_self _, .inl ⟨rfl, e⟩, .nil, fun _ h => nomatch h⟩
  | _ => cases h
end Vm
namespace Vm
open PySem L2
/-! names -/
def lowB (c : Nat) : Bool := decide (97 ≤ c) && decide (c ≤ 122)
/-- one to eight letters a to z -/
def nmS (x : Str) : Bool := decide (1 ≤ x.length) && (decide (x.length ≤ 8) && x.cps.toList.all lowB)
def isNm : Tr → Bool
  | .str x => nmS x
  | _ => false
def ascB (c : Nat) : Bool := Unicode.isAlpha c == (decide (65 ≤ c) && decide (c ≤ 90) || lowB c) && (Unicode.isLower c == lowB c && ((Unicode.isUpper c || Unicode.isTitle c) == (decide (65 ≤ c) && decide (c ≤ 90))))
theorem asc_all : (List.range 128).all ascB = true := by decide +kernel
theorem asc_of {c : Nat} (h : c < 128) : Unicode.isAlpha c = (decide (65 ≤ c) && decide (c ≤ 90) || lowB c) ∧ Unicode.isLower c = lowB c ∧ (Unicode.isUpper c || Unicode.isTitle c) = (decide (65 ≤ c) && decide (c ≤ 90)) := by
  have z := List.all_eq_true.mp asc_all c (List.mem_range.mpr h)
  unfold ascB at z
  rw [Bool.and_eq_true, Bool.and_eq_true, beq_iff_eq, beq_iff_eq, beq_iff_eq] at z
  exact z
theorem low_all : ∀ l : List Nat, (l.all (fun c => decide (c < 128)) && (l.all Unicode.isAlpha && !l.any fun c => Unicode.isUpper c || Unicode.isTitle c)) = l.all lowB
  | [] => rfl
  | c :: r => by
    have ih := low_all r
    rw [List.all_cons, List.all_cons, List.any_cons, List.all_cons, ← ih]
    by_cases h : c < 128
    · obtain ⟨h1, h2, h3⟩ := asc_of h
      rw [h1, h3, decide_eq_true h]
      unfold lowB
      by_cases a1 : 65 ≤ c <;> by_cases a2 : c ≤ 90 <;> by_cases a3 : 97 ≤ c <;> by_cases a4 : c ≤ 122 <;> simp [a1, a2, a3, a4] <;> omega
    · have e : lowB c = false := by
        unfold lowB
        rw [decide_eq_false (show ¬ c ≤ 122 by omega), Bool.and_false]
      rw [decide_eq_false h, e]
      simp
theorem any_low : ∀ l : List Nat, l ≠ [] → l.all lowB = true → l.any Unicode.isLower = true
  | [], h, _ => absurd rfl h
  | c :: r, _, h => by
    rw [List.all_cons, Bool.and_eq_true] at h
    have c1 : lowB c = true := h.1
    have lt : c < 128 := by
      unfold lowB at c1
      rw [Bool.and_eq_true, decide_eq_true_eq, decide_eq_true_eq] at c1
      omega
    rw [List.any_cons, (asc_of lt).2.1, c1, Bool.true_or]
/-- what the program asks of a text of at most eight signs -/
theorem nm_prog {x : Str} (h : x.length ≤ 8) : (Txt.isascii x && (Txt.isalpha x && Txt.islower x)) = nmS x := by
  have e1 := low_all x.cps.toList
  have e2 := any_low x.cps.toList
  have l : x.length = x.cps.toList.length := by
    show x.cps.size = _
    simp
  have f1 : Txt.isascii x = x.cps.toList.all (fun c => decide (c < 128)) := by
    unfold Txt.isascii
    rw [← Array.all_toList]
  have f2 : Txt.isalpha x = (decide (x.length > 0) && x.cps.toList.all Unicode.isAlpha) := by
    unfold Txt.isalpha
    rw [← Array.all_toList]
  have f3 : Txt.islower x = (x.cps.toList.any Unicode.isLower && !x.cps.toList.any fun c => Unicode.isUpper c || Unicode.isTitle c) := by
    unfold Txt.islower
    rw [← Array.any_toList, ← Array.any_toList]
  unfold nmS
  rw [f1, f2, f3, decide_eq_true h, Bool.true_and, l]
  generalize x.cps.toList = L at e1 e2 ⊢
  cases L with
  | nil => rfl
  | cons c r =>
    have p : decide ((c :: r).length > 0) = true := decide_eq_true (by simp)
    have p2 : decide (1 ≤ (c :: r).length) = true := decide_eq_true (by simp)
    rw [p, p2, Bool.true_and, Bool.true_and]
    cases d : (c :: r).all lowB with
    | true =>
      rw [e2 (by simp) d, Bool.true_and, e1, d]
    | false =>
      rw [d] at e1
      revert e1
      cases (c :: r).all (fun c => decide (c < 128)) <;> cases (c :: r).all Unicode.isAlpha <;> cases (c :: r).any Unicode.isLower <;> cases (c :: r).any (fun c => Unicode.isUpper c || Unicode.isTitle c) <;> simp
end Vm
namespace Vm
open PySem SeqAt MeetsSeq
open AutoSeq1 (wpAny_loadPart')
/-! a dict and a text are never equal -/
abbrev dob (dd : Option Addr) (es : Array DictEntry) (n : Nat) (sl : Array (Option Value)) : Obj := { cls := .type "dict", dict := dd, data := .dict es n, slots := sl }
theorem str_no_dict (b : Str) (u : Tok) (l : Addr) (dd : Option Addr) (es : Array DictEntry) (n : Nat) (sl : Array (Option Value)) : Meets (Builtin.«str.__eq__» ⟨[.str b u, .ref l], []⟩) (fun _ R s => s.heap.get? l = some (dob dd es n sl) ∧ R (.ok (.ret .notImplemented)) s) :=
  .of_wp fun prog w A R s h => by
    obtain ⟨hp, g, d, tk, os⟩ := s
    obtain ⟨hl, h⟩ := h
    have f1 := F.sub_dict_str
    wp_walk using wpAny_loadPart' hl, wpAny_load hl
    exact ⟨_, rfl, h⟩
theorem dict_no_str (l : Addr) (dd : Option Addr) (es : Array DictEntry) (n : Nat) (sl : Array (Option Value)) (b : Str) (u : Tok) : Meets (Builtin.«dict.__eq__» ⟨[.ref l, .str b u], []⟩) (fun _ R s => s.heap.get? l = some (dob dd es n sl) ∧ R (.ok (.ret .notImplemented)) s) :=
  .of_wp fun prog w A R s h => by
    obtain ⟨hp, g, d, tk, os⟩ := s
    obtain ⟨hl, h⟩ := h
    have ty : (⟨hp, g, d, tk, os⟩ : Shared).TypeIs (.ref l) "dict" := ⟨_, hl, rfl⟩
    have f1 := F.sub_str_dict
    show wpAny _ _ (Builtin.Dict.dictSlotArgs "__eq__" ⟨[.ref l, .str b u], []⟩ >>= _) _ _ _
    refine wpAny_bind ?_
    unfold Builtin.Dict.dictSlotArgs
    refine wpAny_bind (wpAny_notOrdered_dict ty ?_)
    refine wpAny_pure ?_
    refine wpAny_bind (wpAny_isInstance (T := "str") (typeIs_str _ b u) f1 ?_)
    simp only [Bool.not_false, if_true]
    wp_walk
    exact ⟨_, rfl, h⟩
section
variable {A : Around} {s : Shared}
theorem rc_dict_str {l : Addr} {dd : Option Addr} {es : Array DictEntry} {n : Nat} {sl : Array (Option Value)} (b : Str) (u : Tok) (ho : s.heap.get? l = some (dob dd es n sl)) (hu : A.units < cLine) : RcAt A s (.ref l) (.str b u) false := fun prog w E Q h =>
  rc_eq_decline_or (k := false) ⟨_, ho, rfl⟩ (typeIs_str s b u) (by decide) F.sub_str_dict F.slot_dict_eq F.slot_str_eq_refl
    (fun _ q => call_meets F.slot_dict_eq ⟨_, ho, rfl⟩ F.entry_dict_eq (F.args_dict_eq_2 _ _) (dict_no_str l dd es n sl b u) ⟨ho, q⟩)
    (fun _ q => call_meets F.slot_str_eq_refl (typeIs_str s b u) F.entry_str_eq (F.args_str_eq_2 _ _) (str_no_dict b u l dd es n sl) ⟨ho, q⟩)
    (fun _ q => wpAny_of_eq (rfl : isSame (.ref l) (.str b u) = pure false) q) (.inr hu) h
theorem eq_dict_str {l : Addr} {o : Obj} {es : Array DictEntry} {n : Nat} (b : Str) (u : Tok) (ho : s.heap.get? l = some o) (hc : o.cls = .type "dict") (hd : o.data = .dict es n) (hu : A.units < cLine) : EqAt A s (.ref l) (.str b u) false := fun prog w E Q h => by
  obtain ⟨c, dd, dt, sl⟩ := o
  dsimp only at hc hd
  subst hc hd
  unfold eqBool
  refine wpAny_holding (wpAny_ite_split (fun hab => absurd (eq_of_beq hab) nofun) fun _ => ?_)
  exact wpAny_bind (rc_dict_str b u ho hu prog w E _ (wpAny_truthy_bool h))
end
open L2
/-- the tree is this text -/
def isS (x : Str) : Tr → Bool
  | .str y => y == x
  | _ => false
/-- any data beside a text -/
theorem Dt.eqStr {X : Cx} {pins : List (Addr × Obj)} {σ : St} {H : Hp} {s : Shared} {A : Around} (I : Inv X pins σ H s) {v : V} {t : Tr} {n : Nat} {bs : List Addr} {u : Value} (d : Dt X.K H v t n bs) (r : RelV v u) (x : Str) (k : Tok) (hu : A.units < cLine) : EqAt A s u (.str x k) (isS x t) := by
  cases d with
  | non =>
    cases r
    exact .none_str x k
  | bl b =>
    cases r
    exact .bool_str b x k
  | int h =>
    obtain ⟨t, rfl⟩ := r
    exact .int_str _ t x k
  | str h _ =>
    obtain ⟨t, rfl⟩ := r
    exact .str_str _ t x k
  | lst h rs na =>
    cases r
    obtain ⟨its, rv, pl, _⟩ := I.list (.inl (.inl h))
    exact .list_str x k pl.isList hu
  | emp h =>
    cases r
    obtain ⟨its, rv, pl, _⟩ := I.tuple (.inr h)
    exact .tuple_str x k pl hu
  | tup h nd rs na =>
    cases r
    obtain ⟨its, rv, pl, _⟩ := I.tuple (.inl (.inr ⟨_, h⟩))
    exact .tuple_str x k pl hu
  | dct h kf rs na =>
    cases r
    obtain ⟨z, hs, vs, kv, o, es, ep, e, ex, dd, _⟩ := I.hok _ _ h
    exact eq_dict_str x k e ex.1 dd hu
end Vm
namespace Vm
open PySem L2
def valS (x : Str) : Value → Bool
  | .str y _ => y == x
  | _ => false
theorem Dt.valS {K : PySem.W.Frag} {H : Hp} {v : V} {t : Tr} {n : Nat} {bs : List Addr} {u : Value} (d : Dt K H v t n bs) (r : RelV v u) (x : Str) : valS x u = isS x t := by
  cases d with
  | str h _ =>
    obtain ⟨t, rfl⟩ := r
    rfl
  | int h =>
    obtain ⟨t, rfl⟩ := r
    rfl
  | _ => cases r <;> rfl
theorem DtAll.anyS {K : PySem.W.Frag} {H : Hp} (x : Str) : ∀ {vs : List V} {ts : List Tr} {n : Nat} {bs : List Addr} {us : List Value}, DtAll K H vs ts n bs → Vals vs us → us.any (Vm.valS x) = ts.any (isS x)
  | _, _, _, _, _, .nil, .nil => rfl
  | _, _, _, _, _, .cons h r, .cons q s => by rw [List.any_cons, List.any_cons, h.valS q, r.anyS x s]
/-- ts are the texts ss -/
def sameS : List Tr → List Str → Bool
  | [], [] => true
  | t :: r, z :: s => isS z t && sameS r s
  | _, _ => false
def atS (ts : List Tr) (ss : List Str) (j : Nat) : Bool := match ts[j]?, ss[j]? with
  | some t, some z => isS z t
  | _, _ => true
theorem all_atS : ∀ (ts : List Tr) (ss : List Str), ((List.range (min ts.length ss.length)).all (atS ts ss) && ts.length == ss.length) = sameS ts ss
  | [], [] => rfl
  | [], z :: s => by simp [sameS]
  | t :: r, [] => by simp [sameS]
  | t :: r, z :: s => by
    have ih := all_atS r s
    have e : min (t :: r).length (z :: s).length = min r.length s.length + 1 := by
      simp only [List.length_cons]
      omega
    rw [e, List.range_succ_eq_map, List.all_cons, List.all_map]
    have e2 : (atS (t :: r) (z :: s) ∘ Nat.succ) = atS r s := by
      funext j
      simp [atS]
    have e3 : ((t :: r).length == (z :: s).length) = (r.length == s.length) := by
      simp only [List.length_cons]
      by_cases h : r.length = s.length
      · rw [h]
        simp
      · have h2 : ¬ r.length + 1 = s.length + 1 := by omega
        rw [beq_eq_false_iff_ne.mpr h, beq_eq_false_iff_ne.mpr h2]
    rw [e2, e3]
    show ((isS z t && _) && _) = (isS z t && sameS r s)
    rw [← ih, Bool.and_assoc]
section
variable {X : Cx}
def rInD (K : PySem.W.Frag) (neg : Bool) : R2 := fun x y H Q => ∃ (z : Str) (p : Addr) (xs : List V) (ts : List Tr) (n : Nat) (bs : List Addr), x = .str z ∧ y = .ref p ∧ SqT K H p xs ∧ DtAll K H xs ts n bs ∧ Q (.bl (if neg then !ts.any (isS z) else ts.any (isS z))) H
theorem op_inD {K : PySem.W.Frag} (eK : X.K = K) (hu : X.A.units + 1 < cLine) : OpR X (compareOp .In) (rInD K false) := by
  subst eK
  intro pins s σ H x y v u Q I rx ry h
  obtain ⟨z, p, xs, ts, n, bs, rfl, rfl, hp, d, q⟩ := h
  obtain ⟨k, rfl⟩ := rx
  cases ry
  obtain ⟨its, r, pl, hz⟩ := I.tuple hp
  refine SeqAt.in_tupleAt (valS z) pl (fun y hy => ?_) ⟨.bl _, H, I, rfl, ?_⟩
  · have hy' : y ∈ its := by simpa using hy
    obtain ⟨i, hi, e⟩ := List.mem_iff_getElem.mp hy'
    have e' : its[i]? = some y := by rw [List.getElem?_eq_getElem hi, e]
    have hi2 : i < xs.length := by rw [r.length]; exact hi
    obtain ⟨u, h1, h2⟩ := r.get (List.getElem?_eq_getElem hi2)
    rw [e'] at h1
    cases h1
    obtain ⟨t, cs, _, dt, _⟩ := d.get (List.getElem?_eq_getElem hi2)
    rw [dt.valS h2]
    exact dt.eqStr I h2 z k (by show X.A.units + 1 < cLine; exact hu)
  · rw [show its.toArray.any (valS z) = its.any (valS z) by simp, d.anyS z r]
    exact q
def rEqTS (K : PySem.W.Frag) : R2 := fun x y H Q => ∃ (p q : Addr) (xs : List V) (ts : List Tr) (n : Nat) (bs : List Addr) (ss : List Str), x = .ref p ∧ y = .ref q ∧ SqT K H p xs ∧ DtAll K H xs ts n bs ∧ SqT K H q (ss.map V.str) ∧ Q (.bl (sameS ts ss)) H
theorem op_eqTS (hu : X.A.units + 1 < cLine) : OpR X (compareOp .Eq) (rEqTS X.K) := by
  intro pins s σ H x y v u Q I rx ry h
  obtain ⟨p, q, xs, ts, n, bs, ss, rfl, rfl, hp, d, hq, k⟩ := h
  cases rx
  cases ry
  obtain ⟨its, r, pl, hz⟩ := I.tuple hp
  obtain ⟨its2, r2, pl2, hz2⟩ := I.tuple hq
  have l1 : its.length = ts.length := by rw [← r.length, d.length]
  have l2 : its2.length = ss.length := by rw [← r2.length, List.length_map]
  refine SeqAt.eq_tupleAt (e := atS ts ss) pl pl2 (by omega) (fun j h1 h2 => ?_) ⟨.bl _, H, I, rfl, ?_⟩
  · have h1' : j < its.length := by simpa using h1
    have h2' : j < its2.length := by simpa using h2
    have j1 : j < xs.length := by rw [r.length]; exact h1'
    have j2 : j < (ss.map V.str).length := by rw [r2.length]; exact h2'
    obtain ⟨u, a1, a2⟩ := r.get (List.getElem?_eq_getElem j1)
    obtain ⟨u2, b1, b2⟩ := r2.get (List.getElem?_eq_getElem j2)
    obtain ⟨t, cs, et, dt, _⟩ := d.get (List.getElem?_eq_getElem j1)
    have j3 : j < ss.length := by simpa using j2
    rw [List.getElem_map] at b2
    obtain ⟨k2, rfl⟩ := b2
    have c1 : its.toArray[j] = u := by
      have := List.getElem?_eq_getElem h1'
      rw [a1] at this
      simpa using (Option.some.inj this).symm
    have c2 : its2.toArray[j] = Value.str ss[j] k2 := by
      have := List.getElem?_eq_getElem h2'
      rw [b1] at this
      simpa using (Option.some.inj this).symm
    rw [c1, c2]
    have e : atS ts ss j = isS ss[j] t := by
      unfold atS
      rw [et, List.getElem?_eq_getElem j3]
    rw [e]
    exact dt.eqStr I a2 _ k2 hu
  · have e : ((List.range (min its.toArray.size its2.toArray.size)).all (atS ts ss) && its.toArray.size == its2.toArray.size) = sameS ts ss := by
      rw [← all_atS, List.size_toArray, List.size_toArray, l1, l2]
    rw [e]
    exact k
end
end Vm
namespace Vm
open PySem L2
abbrev sIsNum : Stmt := top 10
abbrev sIsName : Stmt := top 15
abbrev sAreCols : Stmt := top 18
abbrev sAreNames : Stmt := top 19
abbrev sIsKey : Stmt := top 20
theorem ite_ {c : Prop} [Decidable c] {A B : Prop} (h1 : c → A) (h2 : ¬ c → B) : if decide c = true then A else B := by
  by_cases h : c
  · rw [if_pos (decide_eq_true h)]
    exact h1 h
  · rw [if_neg (by simpa using h)]
    exact h2 h
theorem iteB {b : Bool} {A B : Prop} (h1 : b = true → A) (h2 : b = false → B) : if b = true then A else B := by
  cases b with
  | true => exact iteT (h1 rfl)
  | false => exact iteF (h2 rfl)
theorem sameT {K : PySem.W.Frag} {H H' : Hp} {a : Addr} {xs : List V} (k : Same H H') (h : SqT K H a xs) : SqT K H' a xs := by
  rcases h with (h | ⟨o, h⟩) | h
  · exact .inl (.inl (k _ _ h))
  · exact .inl (.inr ⟨o, k _ _ h⟩)
  · exact .inr h
theorem same_upd {H : Hp} {a : Addr} {o : HO} (h : H a = none) : Same H (upd H a o) := fun b u e => by
  rw [upd_ne (ne_of_none e h)]
  exact e
theorem Dt.same {K : PySem.W.Frag} {H H' : Hp} {v : V} {t : Tr} {n : Nat} {bs : List Addr} (d : Dt K H v t n bs) (k : Same H H') : Dt K H' v t n bs := d.keep fun b _ o e => k b o e
theorem DtAll.same {K : PySem.W.Frag} {H H' : Hp} {v : List V} {t : List Tr} {n : Nat} {bs : List Addr} (d : DtAll K H v t n bs) (k : Same H H') : DtAll K H' v t n bs := d.keep fun b _ o e => k b o e
def isNum : Tr → Bool
  | .int _ => true
  | _ => false
def areNms : Tr → Bool
  | .tup ts => decide (ts.length ≤ 2) && ts.all isNm
  | _ => false
def isKey (t : Tr) (ss : List Str) : Bool := match t with
  | .tup ts => sameS ts (ss.filter fun z => ts.any (isS z))
  | _ => false
/-- a test of any data -/
def spTest (K : PySem.W.Frag) (f : Tr → Bool) : Sp := fun vs H Q _ => ∃ (v : V) (t : Tr) (n : Nat) (bs : List Addr), vs = [v] ∧ Dt K H v t n bs ∧ ∀ H', Same H H' → Q (.bl (f t)) H'
def spKey (K : PySem.W.Frag) : Sp := fun vs H Q _ => ∃ (v : V) (t : Tr) (n : Nat) (bs : List Addr) (c : Addr) (ss : List Str), vs = [v, .ref c] ∧ Dt K H v t n bs ∧ SqT K H c (ss.map V.str) ∧ ss.length ≤ 4 ∧ ∀ H', Same H H' → Q (.bl (isKey t ss)) H'
structure TxtP (K : PySem.W.Frag) (mg : Str → Option Value) (fNm fNms : Addr) : Prop where
  isi : mg "isinstance" = none
  int : mg "int" = none
  bool : mg "bool" = none
  str : mg "str" = none
  tuple : mg "tuple" = none
  len : mg "len" = none
  all : mg "all" = none
  set : mg "set" = none
  long : ∃ t, mg "_LONGEST_NAME" = some (.int 8 t)
  most : ∃ t, mg "_MOST_COLUMNS" = some (.int 2 t)
  gNm : mg "is_name" = some (.ref fNm)
  kNm : PySem.W.keepIn K (.ref fNm) = true
  gNms : mg "_are_names" = some (.ref fNms)
  kNms : PySem.W.keepIn K (.ref fNms) = true
section
variable {P : Program} {w : World} {K : PySem.W.Frag} {mg : Str → Option Value} {base : Heap} {fNm fNms : Addr} {fdNm fdNms : FuncData}
theorem scIsNum : FnScope ["thing"] ["thing"] (defScope sIsNum) := ⟨rfl, rfl, rfl, by decide +kernel, rfl, by decide +kernel, by decide +kernel⟩
theorem ok_isnum {f : Addr} {fd : FuncData} (F : Fun K "is_number" "is_number" sIsNum f fd) (T : TxtP K mg fNm fNms) : FnOk P w K mg base CX0 1 f fd ["thing"] (spTest K isNum) := by
  refine F.ok scIsNum (fun vs H Q E h => ?_) (fun cdv A outer s H vs Q E hr h => ?_)
  · obtain ⟨v, t, n, bs, rfl, _⟩ := h
    rfl
  · obtain ⟨v, t, n, bs, rfl, d, k⟩ := h
    refine ⟨_, pss_one (ps_ret (pe_and (pe_callB call_isi (by rfl) T.isi (by decide +kernel) (pa_cons (pv 0) (pa_cons (pe_bltn (v := .ty "int") (by rfl) T.int (by decide +kernel) rfl) pa_nil)))
      (pe_one (pe_not (pe_callB call_isi (by rfl) T.isi (by decide +kernel) (pa_cons (pv 0) (pa_cons (pe_bltn (v := .ty "bool") (by rfl) T.bool (by decide +kernel) rfl) pa_nil))))))), ?_⟩
    refine ⟨_, rfl, v, _, _, _, isInt t, rfl, .ty _, d.ty, kit_int t, _, rfl, ?_⟩
    refine iteB (fun e => ?_) (fun e => ?_)
    · refine ⟨_, rfl, v, _, _, _, isBl t, rfl, .ty _, d.ty, kit_bl t, _, rfl, ?_⟩
      have z : (!isBl t) = isNum t := by
        cases t <;> first | rfl | cases e
      rw [z]
      exact k H (Same.refl H)
    · have z : false = isNum t := by
        cases t <;> first | rfl | cases e
      rw [z]
      exact k H (Same.refl H)
theorem scIsName : FnScope ["thing"] ["thing"] (defScope sIsName) := ⟨rfl, rfl, rfl, by decide +kernel, rfl, by decide +kernel, by decide +kernel⟩
theorem ok_isname {f : Addr} {fd : FuncData} (F : Fun K "is_name" "is_name" sIsName f fd) (T : TxtP K mg fNm fNms) : FnOk P w K mg base CX0 1 f fd ["thing"] (spTest K isNm) := by
  refine F.ok scIsName (fun vs H Q E h => ?_) (fun cdv A outer s H vs Q E hr h => ?_)
  · obtain ⟨v, t, n, bs, rfl, _⟩ := h
    rfl
  · obtain ⟨v, t, n, bs, rfl, d, k⟩ := h
    obtain ⟨tk, hN⟩ := T.long
    refine ⟨_, pss_cons (ps_if (PW.pt (pw_or (pt_not (pt_truth (pe_callB call_isi (by rfl) T.isi (by decide +kernel) (pa_cons (pv 0) (pa_cons (pe_bltn (v := .ty "str") (by rfl) T.str (by decide +kernel) rfl) pa_nil))) (fun _ => rfl)))
          (pw_or1 (pt_cmpR op_gt (pe_callB call_len_str (by rfl) T.len (by decide +kernel) (pa_cons (pv 0) pa_nil)) (pe_glob (v := .int 8) rfl hN ⟨_, rfl⟩) (nomark _)))))
        (pss_one (ps_ret pe_bl)) pss_nil)
      (pss_one (ps_ret (pe_and (pe_bm0 PySem.F.plainAttrs_str PySem.F.slot_str_isascii PySem.F.type_str_isascii mt_isascii (pv 0))
        (pe_and (pe_bm0 PySem.F.plainAttrs_str PySem.F.slot_str_isalpha PySem.F.type_str_isalpha mt_isalpha (pv 0)) (pe_one (pe_bm0 PySem.F.plainAttrs_str PySem.F.slot_str_islower PySem.F.type_str_islower mt_islower (pv 0))))))), ?_⟩
    refine ⟨_, rfl, v, _, _, _, isStr t, rfl, .ty _, d.ty, kit_str t, isStr t, rfl, ?_⟩
    have no : isNm t = false → tRet (tC (.bl false)) { nx := fun _ H' => Q .non H', rt := Q } (start ["thing"] [v]) H := fun z => by
      show Q (.bl false) H
      rw [← z]
      exact k H (Same.refl H)
    cases d with
    | @str n x h hz =>
      refine iteF ?_
      refine ⟨_, rfl, x, rfl, hz, _, _, rfl, rfl, _, rfl, ?_⟩
      refine ite_ (fun e => ?_) (fun e => ?_)
      · refine no ?_
        show nmS x = false
        unfold nmS
        rw [decide_eq_false (show ¬ x.length ≤ 8 by omega), Bool.false_and, Bool.and_false]
      · have e8 : x.length ≤ 8 := by omega
        have z := nm_prog e8
        refine ⟨_, rfl, rfl, x, rfl, rfl, True.intro, _, rfl, ?_⟩
        show if Txt.isascii x = true then _ else _
        cases e1 : Txt.isascii x with
        | false =>
          rw [e1, Bool.false_and] at z
          refine iteF ?_
          rw [z]
          exact k H (Same.refl H)
        | true =>
          rw [e1, Bool.true_and] at z
          refine iteT ?_
          refine ⟨_, rfl, rfl, x, rfl, rfl, True.intro, _, rfl, ?_⟩
          cases e2 : Txt.isalpha x with
          | false =>
            rw [e2, Bool.false_and] at z
            refine iteF ?_
            rw [z]
            exact k H (Same.refl H)
          | true =>
            rw [e2, Bool.true_and] at z
            refine iteT ?_
            refine ⟨_, rfl, rfl, x, rfl, rfl, True.intro, ?_⟩
            rw [z]
            exact k H (Same.refl H)
    | _ => exact iteT (iteT (no rfl))
theorem scAreNames : FnScope ["thing", "name"] ["thing"] (defScope sAreNames) := ⟨rfl, rfl, rfl, by decide +kernel, rfl, by decide +kernel, by decide +kernel⟩
theorem ok_arenames {f : Addr} {fd : FuncData} (F : Fun K "_are_names" "_are_names" sAreNames f fd) (T : TxtP K mg fNm fNms) (GN : FnOk P w K mg base CX0 1 fNm fdNm ["thing"] (spTest K isNm)) (bN : Binds K fdNm ["thing"] []) :
    FnOk P w K mg base CX0 2 f fd ["thing"] (spTest K areNms) := by
  refine F.ok scAreNames (fun vs H Q E h => ?_) (fun cdv A outer s H vs Q E hr h => ?_)
  · obtain ⟨v, t, n, bs, rfl, _⟩ := h
    rfl
  · obtain ⟨v, t, n, bs, rfl, d, k⟩ := h
    obtain ⟨tk, hN⟩ := T.most
    refine ⟨_, pss_one (ps_ret (pe_and (pe_callB call_isi (by rfl) T.isi (by decide +kernel) (pa_cons (pv 0) (pa_cons (pe_bltn (v := .ty "tuple") (by rfl) T.tuple (by decide +kernel) rfl) pa_nil)))
      (pe_and (pe_cmpR op_le (pe_callB call_len_seq (by rfl) T.len (by decide +kernel) (pa_cons (pv 0) pa_nil)) (pe_glob (v := .int 2) rfl hN ⟨_, rfl⟩) (nomark _))
        (pe_one (pe_callB (cr_all rfl) (by rfl) T.all (by decide +kernel) (pa_cons (pe_lc (own := [("name", 1)]) (g := gName 1) (tt := tYes) rfl scAreNames.nd (pi_tup (pv 0))
          (blkOk_by (N := ["thing", "name"]) (sc := defScope sAreNames) (by decide +kernel)) (fun _ _ _ _ _ => pg_name (i := 1) scAreNames.nd rfl (Or.inl rfl)) (fun _ _ _ _ _ => pts_nil)
          (fun _ _ _ _ _ => pe_call GN hr rfl T.gNm T.kNm bN .nil pass0 (pa_cons (pv 1) pa_nil))) pa_nil)))))), ?_⟩
    refine ⟨_, rfl, v, _, _, _, isTup t, rfl, .ty _, d.ty, kit_tup t, _, rfl, ?_⟩
    have no : areNms t = false → Q (.bl false) H := fun z => by
      rw [← z]
      exact k H (Same.refl H)
    cases ht : isTup t with
    | true =>
      obtain ⟨a, xs, ts, m, cs, rfl, rfl, _, ha, r, _⟩ := d.tupOf ht
      refine iteT ?_
      have hl := r.length
      refine ⟨_, rfl, a, xs, rfl, .inr ha, _, _, rfl, rfl, _, rfl, ?_⟩
      refine ite_ (fun e => ?_) (fun e => ?_)
      · refine ⟨_, rfl, a, rfl, ⟨_, ha⟩, fun D hD => ?_⟩
        refine lc_tup (K := K) (a := a) (xs := xs) (fun i H' => Same H H' ∧ H' D = some (.lst (((ts.take i).map isNm).map V.bl))) ⟨same_upd hD, upd_same⟩ (fun i H' _ q => sameT q.1 ha) ?_ ?_
        · rintro i y H3 hi ⟨s3, e3⟩
          refine ⟨rfl, ?_⟩
          dsimp only [tYes]
          rw [if_pos rfl]
          obtain ⟨t, cs, et, dt, _⟩ := r.get hi
          have hts : i < ts.length := by
            rcases Nat.lt_or_ge i ts.length with z | z
            · exact z
            · rw [List.getElem?_eq_none z] at et
              cases et
          refine ⟨_, rfl, y, t, _, cs, rfl, dt.same s3, fun H4 s4 => ⟨_, s4 _ _ e3, ?_, fun b o e => ?_, ?_⟩⟩
          · rw [List.length_map, List.length_map, List.length_take]
            have : sizeLine > 4 := by decide
            omega
          · rw [upd_ne (ne_of_none e hD)]
            exact s4 b o (s3 b o e)
          · rw [upd_same, List.take_add_one, et]
            simp
        · rintro H3 ⟨s3, e3⟩
          refine ⟨D, (ts.take xs.length).map isNm, rfl, SqL.of e3, ?_⟩
          have z : (((ts.take xs.length).map isNm).all id) = areNms (.tup ts) := by
            rw [hl, List.take_length]
            show _ = (decide (ts.length ≤ 2) && ts.all isNm)
            rw [decide_eq_true (by omega), Bool.true_and, List.all_map]
            rfl
          rw [z]
          exact k H3 s3
      · refine no ?_
        show (decide (ts.length ≤ 2) && ts.all isNm) = false
        rw [decide_eq_false (by omega), Bool.false_and]
    | false =>
      refine iteF (no ?_)
      cases t <;> first | rfl | cases ht
end
end Vm
namespace Vm
open PySem L2
theorem filter_add {p : Str → Bool} {ss : List Str} {i : Nat} {z : Str} (h : ss[i]? = some z) : (ss.take (i + 1)).filter p = if p z = true then (ss.take i).filter p ++ [z] else (ss.take i).filter p := by
  rw [List.take_add_one, h, List.filter_append]
  by_cases e : p z = true
  · rw [if_pos e]
    simp [e]
  · rw [if_neg e]
    simp [e]
theorem map_at {ss : List Str} {i : Nat} {y : V} (h : (ss.map V.str)[i]? = some y) : ∃ z, ss[i]? = some z ∧ y = .str z := by
  rw [List.getElem?_map] at h
  cases e : ss[i]? with
  | none => rw [e] at h; cases h
  | some u => rw [e] at h; exact ⟨u, rfl, (Option.some.inj h).symm⟩
section
variable {P : Program} {w : World} {K : PySem.W.Frag} {mg : Str → Option Value} {base : Heap} {fNm fNms : Addr} {fdNm fdNms : FuncData}
theorem scIsKey : FnScope ["thing", "columns", "column"] ["thing", "columns"] (defScope sIsKey) := ⟨rfl, rfl, rfl, by decide +kernel, rfl, by decide +kernel, by decide +kernel⟩
theorem ok_iskey {f : Addr} {fd : FuncData} (F : Fun K "_is_key" "_is_key" sIsKey f fd) (T : TxtP K mg fNm fNms) : FnOk P w K mg base CX0 1 f fd ["thing", "columns"] (spKey K) := by
  refine F.ok scIsKey (fun vs H Q E h => ?_) (fun cdv A outer s H vs Q E hr h => ?_)
  · obtain ⟨v, t, n, bs, c, ss, rfl, _⟩ := h
    rfl
  · obtain ⟨v, t, n, bs, c, ss, rfl, d, hS, h4, k⟩ := h
    have hu : (A.deeper (PyProof.Rows.envOfC "_is_key" (defScope sIsKey) s.heap.objs.size f cdv)).units + 1 < cLine := by
      have := hr.units
      omega
    refine ⟨_, pss_one (ps_ret (pe_and (pe_callB call_isi (by rfl) T.isi (by decide +kernel) (pa_cons (pv 0) (pa_cons (pe_bltn (v := .ty "tuple") (by rfl) T.tuple (by decide +kernel) rfl) pa_nil)))
      (pe_one (pe_cmpR (op_eqTS hu) (pv 0) (pe_callTy call_tuple_of (by rfl) T.tuple (by decide +kernel) (pa_cons (pe_lc (own := [("column", 2)]) (g := gName 2) rfl scIsKey.nd (pi_tup (pv 1))
          (blkOk_by (N := ["thing", "columns", "column"]) (sc := defScope sIsKey) (by decide +kernel)) (fun _ _ _ _ _ => pg_name (i := 2) scIsKey.nd rfl (Or.inl rfl))
          (fun _ _ _ _ _ => pts_one (pt_cmpR (op_inD (K := K) rfl hu) (pv 2) (pv 0) (by rfl)))
          (fun _ _ _ _ _ => pv 2)) pa_nil)) (nomark _))))), ?_⟩
    refine ⟨_, rfl, v, _, _, _, isTup t, rfl, .ty _, d.ty, kit_tup t, _, rfl, ?_⟩
    have no : isKey t ss = false → Q (.bl false) H := fun z => by
      rw [← z]
      exact k H (Same.refl H)
    cases ht : isTup t with
    | true =>
      obtain ⟨a, xs, ts, m, cs, rfl, rfl, _, ha, r, _⟩ := d.tupOf ht
      refine iteT ?_
      refine ⟨_, rfl, _, rfl, c, rfl, ⟨_, hS⟩, fun D hD => ?_⟩
      refine lc_tup (K := K) (a := c) (xs := ss.map V.str) (fun i H' => Same H H' ∧ H' D = some (.lst (((ss.take i).filter fun z => ts.any (isS z)).map V.str))) ⟨same_upd hD, upd_same⟩ (fun i H' _ q => sameT q.1 hS) ?_ ?_
      · rintro i y H3 hi ⟨s3, e3⟩
        obtain ⟨z, ez, rfl⟩ := map_at hi
        refine ⟨rfl, ?_⟩
        refine ⟨_, rfl, _, rfl, z, a, xs, ts, _, _, rfl, rfl, sameT s3 ha, r.same s3, _, rfl, ?_⟩
        have fa := filter_add (p := fun z => ts.any (isS z)) ez
        refine iteB (b := ts.any (isS z)) (fun e => ?_) (fun e => ?_)
        · refine ⟨_, rfl, _, e3, ?_, fun b o q => ?_, ?_⟩
          · rw [List.length_map]
            have l1 := List.length_filter_le (fun z => ts.any (isS z)) (ss.take i)
            have l2 : (ss.take i).length ≤ ss.length := by
              rw [List.length_take]
              omega
            have : sizeLine > 4 := by decide
            omega
          · rw [upd_ne (ne_of_none q hD)]
            exact s3 b o q
          · rw [upd_same, fa, if_pos e, List.map_append]
            rfl
        · refine ⟨s3, ?_⟩
          rw [fa, if_neg (by rw [e]; decide)]
          exact e3
      · rintro H3 ⟨s3, e3⟩
        refine ⟨D, _, rfl, .inl ⟨SqL.of e3, fun l hl => ?_⟩⟩
        have s4 := s3.trans (same_upd (o := .tup (((ss.take (ss.map V.str).length).filter fun z => ts.any (isS z)).map V.str)) hl)
        refine ⟨a, l, xs, ts, _, cs, _, rfl, rfl, sameT s4 ha, r.same s4, SqT.of upd_same, ?_⟩
        rw [List.length_map, List.take_length]
        exact k _ (by rw [List.length_map, List.take_length] at s4; exact s4)
    | false =>
      refine iteF (no ?_)
      cases t <;> first | rfl | cases ht
end
end Vm
namespace Vm
open PySem PySem.Spec PyProof.Rows
/-! len(set(t)), t a tuple of any texts -/
/-- how many different texts stand ahead of the place i -/
def many (xs : List Str) : Nat → Nat
  | 0 => 0
  | i + 1 => if (xs.take i).any (· == xs.getD i Str.empty) = true then many xs i else many xs i + 1
theorem many_le (xs : List Str) : ∀ i, many xs i ≤ i
  | 0 => Nat.le_refl _
  | i + 1 => by
    have h := many_le xs i
    unfold many
    split <;> omega
def seen (xs : List Str) (i : Nat) : Str → Bool := fun z => (xs.take i).any (· == z)
theorem seen_succ (xs : List Str) {i : Nat} (h : i < xs.length) (z : Str) : (seen xs i z || decide (z = xs.getD i Str.empty)) = seen xs (i + 1) z := by
  unfold seen
  have e : xs.getD i Str.empty = xs[i] := by
    rw [List.getD_eq_getElem?_getD, List.getElem?_eq_getElem h]
    rfl
  rw [List.take_add_one, List.getElem?_eq_getElem h, List.any_append, e]
  congr 1
  by_cases q : z = xs[i]
  · rw [decide_eq_true q, q]
    simp
  · have q2 : (xs[i] == z) = false := beq_eq_false_iff_ne.mpr fun y => q y.symm
    rw [decide_eq_false q]
    simp [q2]
section
variable {prog : Program} {w : World} {A : Around} {R : Result → Shared → Prop} {I : Addr} {fp wr : List Addr} {G : Array GenState → Array GenState → Prop} {n : Nat} {Pv : Nat → Value → Prop} {St : Nat → Shared → Prop}
theorem set_same {B : Addr} {xs : List Str} {i m : Nat} {h h' : Heap} (q : h.SetOf (strKind prog w) B (seen xs i) m) (k : ∀ o, h.get? B = some o → h'.get? B = some o) : h'.SetOf (strKind prog w) B (seen xs i) m :=
  let ⟨o, es, ep, t, ho, rest⟩ := q
  ⟨o, es, ep, t, k o ho, rest⟩
/-- the walk puts every text into the set at B -/
theorem put_all (W : WalksS prog w A.in1 I fp wr G n Pv St) (B : Addr) (off : B ∉ fp) (xs : List Str) (len : xs.length = n) (few : n < 1000) (vals : ∀ i v, Pv i v → ∃ t, v = .str (xs.getD i Str.empty) t) :
    ∀ (k i : Nat) (s : Shared), n - i = k → i ≤ n → St i s → s.heap.SetOf (strKind prog w) B (seen xs i) (many xs i) →
      (∀ s', Moved (B :: wr) G s s' → s'.heap.SetOf (strKind prog w) B (seen xs n) (many xs n) → R (.ok (.ret .none)) s') → codeAny (model prog w) A (.builtin "set.update.loop" ⟨[.ref B, .ref I], []⟩) R s
  | 0, i, s, hk, hi, at_, q, go => by
    obtain rfl : i = n := by omega
    refine codeAny_builtin PyProof.Rows.F.entry_set_update_loop ?_
    rw [Around.under_plainId PyProof.Rows.F.plain_set_update_loop _]
    show wpAny _ A.in1 (pyNext (.ref I) >>= _) _ _ _
    refine wpAny_bind (W.done s _ _ at_ fun s1 mv => ?_)
    exact wpAny_pure (go s1 (mv.mono fun b hb => List.mem_cons_of_mem _ hb) (set_same q fun o e => mv.heap B _ (fun z => off (W.sub _ z)) e))
  | k + 1, i, s, hk, hi, at_, q, go => by
    have lt : i < n := by omega
    refine codeAny_builtin PyProof.Rows.F.entry_set_update_loop ?_
    rw [Around.under_plainId PyProof.Rows.F.plain_set_update_loop _]
    show wpAny _ A.in1 (pyNext (.ref I) >>= _) _ _ _
    refine wpAny_bind (W.item i s _ _ lt at_ fun v s1 pv at1 mv => ?_)
    obtain ⟨t, rfl⟩ := vals i v pv
    have q1 := set_same (h' := s1.heap) q fun o e => mv.heap B _ (fun z => off (W.sub _ z)) e
    show wpAny _ _ (holding [Value.str (xs.getD i Str.empty) t] (setAdd B (.str (xs.getD i Str.empty) t)) >>= _) _ _ _
    refine wpAny_bind (wpAny_holding ?_)
    unfold setAdd
    refine wpAny_holding (wpAny_bind ((strKind prog w).pyHash (k := xs.getD i Str.empty) (strKind_is _ _ _ _) ?_))
    have room : many xs i + 1 < scanBound := by
      have := many_le xs i
      unfold scanBound
      omega
    refine wpAny_setAddHashed_of (knd := strKind prog w) (s := { s1 with toks := s1.toks + 1 }) (strKind_is _ _ _ _) rfl q1 room fun h2 but q2 => ?_
    have q3 : h2.SetOf (strKind prog w) B (seen xs (i + 1)) (many xs (i + 1)) := SetOf_congr q2 (fun z => seen_succ xs (by omega) z) rfl
    refine wpAny_pure ⟨plainId_quiet PyProof.Rows.F.plain_set_update_loop _, put_all W B off xs len few vals k (i + 1) _ (by omega) lt ?_ q3 fun s3 mv3 q4 => ?_⟩
    · refine W.frame _ s1 _ _ at1 (Nat.le_succ _) fun b hb o e => ?_
      rw [but.2 b fun z => off (z ▸ hb)]
      exact e
    · refine go s3 (Moved.trans W.gtrans ((mv.mono fun b hb => List.mem_cons_of_mem _ hb).then_heap (Nat.le_succ _) fun b o hb e => ?_) mv3) q4
      rw [but.2 b fun z => hb (z ▸ List.mem_cons_self)]
      exact e
end
section
variable {prog : Program} {w : World} {A : Around} {E : Value → Shared → Prop} {s : Shared}
abbrev newSet (led : Bool) : Obj := { cls := .type "set", dict := none, data := .set #[] 0 (.fresh 0 0 led) }
abbrev Ready (prog : Program) (w : World) (s : Shared) (xs : List Str) (t : Shared) : Prop := ∃ h' tk, t = { s with heap := h', toks := tk } ∧ h'.SetOf (strKind prog w) s.heap.objs.size (seen xs xs.length) (many xs xs.length) ∧
  ∀ b o, b < s.heap.objs.size → s.heap.get? b = some o → h'.get? b = some o
/-- the body of __init__ -/
theorem fill_set {l : Addr} {items : Array Value} {xs : List Str} {led : Bool} {Q : PySem.Fin → Shared → Prop} (hh : A.handled = none) (hl : s.heap.IsTuple l items) (hi : StrsAre items.toList xs) (few : xs.length < 1000)
    (go : ∀ t, Ready prog w s xs t → Q (.done (.ret .none)) t) : wpAny (model prog w) A (Builtin.«set.__init__» ⟨[.ref s.heap.objs.size, .ref l], []⟩) Q E { s with heap := s.heap.push (newSet led) } := by
  have at_l : l < s.heap.objs.size := let ⟨_, e, _⟩ := hl; Heap.lt_size e
  obtain ⟨⟨c, dd, dt, sl⟩, e, hc, m, hd⟩ := hl
  dsimp only at hc hd
  subst hc hd
  have e1 : (s.heap.push (newSet led)).get? l = some { cls := .type "tuple", dict := dd, data := .seq items m, slots := sl } := Heap.get?_push_of_some _ e
  have eB : (s.heap.push (newSet led)).get? s.heap.objs.size = some (newSet led) := Heap.get?_push_size _ rfl
  have tup : (s.heap.push (newSet led)).IsTuple l items := ⟨_, e1, rfl, m, rfl⟩
  have no1 := PySem.F.sub_tuple_set
  have no2 := PySem.F.sub_tuple_frozenset
  have no3 : (Value.type "tuple" == Value.type "dict") = false := by decide
  unfold Builtin.«set.__init__» noKeywords Builtin.Frozenset.updateFrom
  generalize hIt : pyIter = It
  wp_walk
  subst hIt
  refine wpAny_pyIter_tuple tup (wpAny_bind (wpAny_runValue ?_))
  have sz : (s.heap.push (newSet led)).objs.size = s.heap.objs.size + 1 := Heap.size_push _ _
  have apart : l ≠ (s.heap.push (newSet led)).objs.size := by
    rw [sz]
    exact Nat.ne_of_lt (Nat.lt_succ_of_lt at_l)
  have out : s.heap.objs.size ∉ [(s.heap.push (newSet led)).objs.size, l] := by
    rw [sz]
    intro z
    rcases List.mem_cons.mp z with z | z
    · exact absurd z (Nat.ne_of_lt (Nat.lt_succ_self _))
    · exact absurd (List.mem_singleton.mp z) (Nat.ne_of_gt at_l)
  have len : xs.length = items.size := by rw [← StrsAre.len_eq hi, Array.length_toList]
  have calm : A.in1.handled = none := by simp [hh]
  refine put_all ((Walks.tuple calm _ l apart items).toS) s.heap.objs.size out xs len (by omega) (fun i v hv => SS.strs_at hi i v (by rw [Array.getElem?_toList]; exact hv)) (items.size - 0) 0 _ (by omega) (Nat.zero_le _)
    ?here ?first ?last
  case here => exact ⟨⟨_, Heap.get?_push_size _ rfl, rfl, rfl⟩, tup.push _⟩
  case first => exact SetOf_congr ((setObjOf_fresh (knd := strKind prog w) led).setOf (Heap.get?_push_of_some _ eB) (by unfold scanBound; omega)) (fun _ => rfl) rfl
  case last =>
    intro t mv q
    obtain ⟨h', g', d', tk', os'⟩ := t
    obtain rfl : g' = s.gens := mv.gens
    obtain rfl : d' = s.drawn := mv.drawn
    obtain rfl : os' = s.os := mv.os
    show wpAny _ _ _ _ _ _
    refine wpAny_pure ?_
    show wpAny _ _ (ret Value.none) _ _ _
    refine wpAny_pure (go _ ⟨h', tk', rfl, by rw [len]; exact q, fun b o lt eb => ?_⟩)
    refine mv.heap b o (fun z => ?_) (Heap.get?_push_of_some _ (Heap.get?_push_of_some _ eb))
    rcases List.mem_cons.mp z with z | z
    · exact absurd z (Nat.ne_of_lt lt)
    · have z2 := List.mem_singleton.mp z
      rw [sz] at z2
      exact absurd z2 (Nat.ne_of_lt (Nat.lt_succ_of_lt lt))
end
section
variable {prog : Program} {w : World} {A : Around} {E : Value → Shared → Prop} {s : Shared}
/-- set(t) -/
theorem set_tuple {l : Addr} {items : Array Value} {xs : List Str} {Q : Value → Shared → Prop} (hh : A.handled = none) (hl : s.heap.IsTuple l items) (hi : StrsAre items.toList xs) (few : xs.length < 1000)
    (go : ∀ t, Ready prog w s xs t → Q (.ref s.heap.objs.size) t) : wpAny (model prog w) A (call (.type "set") [.ref l]) Q E s := by
  have F0 := PySem.F.called_set
  obtain ⟨c, tl, order⟩ := F0.mro
  have g1 := F0.made
  have g2 := F0.sub
  refine wpAny_call (codeAny_of_tree ?_)
  show wpAny _ _ (callAny (.type "set") _) _ _ _
  refine wpAny_pure ⟨Code.quiet_builtin _ (by decide +kernel), codeAny_builtin PySem.F.entry_type_call ?_⟩
  rw [Around.under_plain (weight_type_call_type "set" [.ref l] []) rfl]
  have g3 := F0.notType
  have g4 := F0.canCreate
  have g5 := PySem.F.typeCall_set_1 (.ref l)
  repeat (any_goals (first | assumption | wp_step))
  refine codeAny_mono (code_set_new_1 (.ref l) (E := E) (Q₁ := fun made s₁ => ∃ led : Bool, made = .ref s.heap.objs.size ∧ s₁ = { s with heap := s.heap.push (newSet led) }) fun led => ⟨led, rfl, rfl⟩) fun r s₁ hr => ?_
  match r, hr with
  | .error e, hr => exact hr
  | .ok (.ret made), hr =>
    obtain ⟨led, rfl, rfl⟩ := hr
    have eB : (s.heap.push (newSet led)).get? s.heap.objs.size = some (newSet led) := Heap.get?_push_size _ rfl
    have ty : Shared.TypeIs { s with heap := s.heap.push (newSet led) } (.ref s.heap.objs.size) "set" := ⟨_, eB, rfl⟩
    have g6 := F0.init.lookup
    have g7 := F0.init.bind (.ref s.heap.objs.size)
    repeat (any_goals (first | assumption | wp_step))
    refine codeAny_mono (codeAny_call_builtin (R := wants (fun r t => r = .none ∧ Ready prog w s xs t) E) F0.init.plain PySem.F.entry_set_init (check_set_init_1 ty ?_)) fun r₂ t hr₂ => ?_
    · refine fill_set (by simp [hh]) hl hi few fun t q => ?_
      exact ⟨rfl, q⟩
    · match r₂, hr₂ with
      | .error e, hr₂ => exact hr₂
      | .ok (.ret r), hr₂ =>
        obtain ⟨rfl, q⟩ := hr₂
        have go' := go _ q
        repeat (any_goals (first | assumption | wp_step))
end
section
open L2
variable {X : Cx}
/-- what len(set(t)) asks -/
def tManyT (K : PySem.W.Frag) (ta : TE) : TE := fun σ H Q => ta σ H fun x H1 => ∃ (l : Addr) (xs : List Str), x = .ref l ∧ SqT K H1 l (xs.map V.str) ∧ xs.length < 1000 ∧ Q (.int (many xs xs.length)) H1
theorem pe_many {a : Expr} {ta : TE} {p p2 q pos : Pos} (hc : X.calm = true) (hg : Gl X "len") (hm : X.mg "len" = none) (hg2 : Gl X "set") (hm2 : X.mg "set" = none) (ha : PE X a ta)
    (na : starEach [a] X.env = (false, eval a X.env) :: starEach [] X.env := by rfl) : PE X (.Call (.Name "len" p) [.Call (.Name "set" p2) [a] [] q] [] pos) (tManyT X.K ta) := by
  constructor
  intro pins s σ H Q I h
  refine Call_ (ld_blt I hg hm boot_len (PyProof.Rows.callWith_builtin1 (PyProof.Rows.args_cons (Call_ (ld_blt I hg2 hm2 boot_set ?_)) rfl) rfl rfl))
  refine PyProof.Rows.callWith_type1 (PyProof.Rows.args_cons (thn (ha.run pins s σ H _ I h) ?_) na) na rfl
  rintro v s1 ⟨x, H1, I1, r1, l, xs, rfl, hq, few, want⟩
  cases r1
  refine PyProof.Rows.args_nil ?_
  obtain ⟨its, r, pl, _⟩ := I1.tuple hq
  refine set_tuple (I1.ok.hd hc) pl (by simpa using strsAre_of r) few ?_
  rintro t ⟨h', tk, rfl, ⟨o, es, ep, tb, ho, hex, hd, _, _, _, hf, hn⟩, kept⟩
  refine PyProof.Rows.args_nil ?_
  have I2 : Inv X pins σ H1 { s1 with heap := h', toks := tk } := I1.kept fun b o e => kept b o (Heap.lt_size e) e
  have le := many_le xs xs.length
  exact call_len_set ho hex hd hf (by rw [hn]; omega) ⟨.int (many xs xs.length), H1, I2.tok _, ⟨_, by rw [hn]⟩, want⟩
end
/-- all different -/
theorem many_all {xs : List Str} : ∀ {i : Nat}, i ≤ xs.length → (many xs i = i ↔ (xs.take i).Nodup)
  | 0, _ => by simp [many]
  | i + 1, h => by
    have ih := many_all (xs := xs) (i := i) (by omega)
    have le := many_le xs i
    have e : xs.getD i Str.empty = xs[i] := by
      rw [List.getD_eq_getElem?_getD, List.getElem?_eq_getElem (by omega)]
      rfl
    rw [List.take_add_one, List.getElem?_eq_getElem (show i < xs.length by omega)]
    unfold many
    rw [e]
    by_cases m : (xs.take i).any (· == xs[i]) = true
    · rw [if_pos m]
      obtain ⟨y, hy, ey⟩ := List.any_eq_true.mp m
      have ey2 : y = xs[i] := beq_iff_eq.mp ey
      refine ⟨fun z => by omega, fun z => ?_⟩
      have z2 := (List.nodup_append.mp z).2.2 y hy xs[i] (by simp)
      exact absurd ey2 z2
    · rw [if_neg m]
      refine ⟨fun z => ?_, fun z => ?_⟩
      · have d := ih.mp (by omega)
        refine List.nodup_append.mpr ⟨d, by simp, fun y hy y2 hy2 q => m ?_⟩
        have q2 : y2 = xs[i] := by simpa using hy2
        exact List.any_eq_true.mpr ⟨y, hy, beq_iff_eq.mpr (q.trans q2)⟩
      · have d := ih.mpr (List.nodup_append.mp z).1
        omega
end Vm
namespace Vm
open PySem L2
/-- all are names: texts -/
theorem DtAll.names {K : PySem.W.Frag} {H : Hp} : ∀ {xs : List V} {ts : List Tr} {n : Nat} {bs : List Addr}, DtAll K H xs ts n bs → ts.all isNm = true → ∃ ss : List Str, ts = ss.map Tr.str ∧ xs = ss.map V.str ∧ ss.all nmS = true
  | _, _, _, _, .nil, _ => ⟨[], rfl, rfl, rfl⟩
  | _, t :: _, _, _, .cons h r, e => by
    rw [List.all_cons, Bool.and_eq_true] at e
    obtain ⟨ss, e1, e2, e3⟩ := r.names e.2
    cases h with
    | @str _ x h1 h2 => exact ⟨x :: ss, by rw [e1]; rfl, by rw [e2]; rfl, by rw [List.all_cons, e3, Bool.and_true]; exact e.1⟩
    | _ => cases e.1
/-- .. that tuple -/
theorem Dt.names {K : PySem.W.Frag} {H : Hp} {v : V} {t : Tr} {n : Nat} {bs : List Addr} (d : Dt K H v t n bs) (h : areNms t = true) : ∃ (a : Addr) (ss : List Str), v = .ref a ∧ t = .tup (ss.map Tr.str) ∧ TupE K H a (ss.map V.str) ∧ ss.length ≤ 2 ∧ ss.all nmS = true := by
  have ht : isTup t = true := by
    cases t <;> first | rfl | cases h
  obtain ⟨a, xs, ts, m, cs, rfl, rfl, _, ha, r, _⟩ := d.tupD ht
  have h2 : (decide (ts.length ≤ 2) && ts.all isNm) = true := h
  rw [Bool.and_eq_true, decide_eq_true_eq] at h2
  obtain ⟨ss, rfl, rfl, e3⟩ := r.names h2.2
  exact ⟨a, ss, rfl, rfl, ha, by simpa using h2.1, e3⟩
def strOf : Tr → Option Str
  | .str x => some x
  | _ => none
def strsOf : Tr → List Str
  | .tup ts => ts.filterMap strOf
  | _ => []
theorem strsOf_map (ss : List Str) : strsOf (.tup (ss.map Tr.str)) = ss := by
  show (ss.map Tr.str).filterMap strOf = ss
  rw [List.filterMap_map]
  exact List.filterMap_some
def colsOk (ss : List Str) : Bool := decide (0 < ss.length) && decide ss.Nodup
def areCols (t1 t2 : Tr) : Bool := areNms t1 && (areNms t2 && colsOk (strsOf t1 ++ strsOf t2))
def spCols (K : PySem.W.Frag) : Sp := fun vs H Q _ => ∃ (v1 v2 : V) (t1 t2 : Tr) (n1 n2 : Nat) (b1 b2 : List Addr), vs = [v1, v2] ∧ Dt K H v1 t1 n1 b1 ∧ Dt K H v2 t2 n2 b2 ∧ ∀ H', Same H H' → Q (.bl (areCols t1 t2)) H'
section
variable {X : Cx}
/-- t + u, of texts -/
def rCatS (K : PySem.W.Frag) : R2 := fun x y H Q => ∃ (a b : Addr) (ss zs : List Str), x = .ref a ∧ y = .ref b ∧ SqT K H a (ss.map V.str) ∧ SqT K H b (zs.map V.str) ∧ ss.length + zs.length ≤ sizeLine ∧
  ∀ (q : Addr) (H' : Hp), Same H H' → SqT K H' q ((ss ++ zs).map V.str) → Q (.ref q) H'
theorem op_catS : OpR X (binaryOp .Add) (rCatS X.K) := by
  intro pins s σ H x y v u Q I rx ry h
  obtain ⟨a, b, ss, zs, rfl, rfl, ha, hb, hz, q⟩ := h
  refine op_catA pins s σ H _ _ v u Q I rx ry ⟨a, b, _, _, rfl, rfl, ha, hb, by simpa using hz, fun e => ?_, fun _ e => ?_, fun _ _ p hp => ?_⟩
  · have e2 : ss = [] := by simpa using e
    subst e2
    exact q b H (Same.refl H) hb
  · have e2 : zs = [] := by simpa using e
    subst e2
    refine q a H (Same.refl H) ?_
    rw [List.append_nil]
    exact ha
  · refine q p _ (same_upd hp) ?_
    rw [List.map_append]
    exact SqT.of upd_same
/-- t + u, of tuples that were made here -/
def rCatE (K : PySem.W.Frag) : R2 := fun x y H Q => ∃ (a b : Addr) (xs ys : List V), x = .ref a ∧ y = .ref b ∧ TupE K H a xs ∧ TupE K H b ys ∧ xs.length + ys.length ≤ sizeLine ∧
  ∀ (q : Addr) (H' : Hp), Same H H' → TupE K H' q (xs ++ ys) → (q = a ∨ q = b ∨ H q = none) → Q (.ref q) H'
theorem op_catE : OpR X (binaryOp .Add) (rCatE X.K) := by
  intro pins s σ H x y v u Q I rx ry h
  obtain ⟨a, b, xs, ys, rfl, rfl, ha, hb, hz, q⟩ := h
  refine op_catF pins s σ H _ _ v u Q I rx ry ⟨a, b, _, _, rfl, rfl, ha.sq, hb.sq, hz, fun e => ?_, fun _ e => ?_, fun _ _ p o hp hd => ?_⟩
  · subst e
    exact q b H (Same.refl H) hb (.inr (.inl rfl))
  · subst e
    refine q a H (Same.refl H) ?_ (.inl rfl)
    rw [List.append_nil]
    exact ha
  · exact q p _ (same_upd hp) (.inr ⟨o, upd_same, hd⟩) (.inr (.inr hp))
end
section
variable {P : Program} {w : World} {K : PySem.W.Frag} {mg : Str → Option Value} {base : Heap} {fNm fNms : Addr} {fdNm fdNms : FuncData}
theorem scAreCols : FnScope ["names", "numbers", "columns"] ["names", "numbers"] (defScope sAreCols) := ⟨rfl, rfl, rfl, by decide +kernel, rfl, by decide +kernel, by decide +kernel⟩
theorem ok_arecols {f : Addr} {fd : FuncData} (F : Fun K "_are_columns" "_are_columns" sAreCols f fd) (T : TxtP K mg fNm fNms) (GN : FnOk P w K mg base CX0 2 fNms fdNms ["thing"] (spTest K areNms)) (bN : Binds K fdNms ["thing"] []) :
    FnOk P w K mg base CX0 3 f fd ["names", "numbers"] (spCols K) := by
  refine F.ok scAreCols (fun vs H Q E h => ?_) (fun cdv A outer s H vs Q E hr h => ?_)
  · obtain ⟨v1, v2, t1, t2, n1, n2, b1, b2, rfl, _⟩ := h
    rfl
  · obtain ⟨v1, v2, t1, t2, n1, n2, b1, b2, rfl, d1, d2, k⟩ := h
    refine ⟨_, pss_cons (ps_if (pt_not (PW.pt (pw_and (pt_truth (pe_call GN hr rfl T.gNms T.kNms bN .nil pass0 (pa_cons (pv 0) pa_nil)) (fun _ => rfl)) (pw_and1 (pt_truth (pe_call GN hr rfl T.gNms T.kNms bN .nil pass0 (pa_cons (pv 1) pa_nil)) (fun _ => rfl))))))
        (pss_one (ps_ret pe_bl)) pss_nil)
      (pss_cons (ps_set (i := 2) scAreCols.nd rfl (Or.inl rfl) (pe_op op_catS (pv 0) (pv 1)))
      (pss_one (ps_ret (pe_and (pe_cmpR op_gt (pe_callB call_len_seq (by rfl) T.len (by decide +kernel) (pa_cons (pv 2) pa_nil)) pe_int (nomark _))
        (pe_one (pe_cmpR op_eq (pe_many rfl rfl T.len rfl T.set (pv 2)) (pe_callB call_len_seq (by rfl) T.len (by decide +kernel) (pa_cons (pv 2) pa_nil)) (nomark _))))))), ?_⟩
    refine ⟨_, rfl, v1, t1, n1, b1, rfl, d1, fun H1 s1 => ⟨areNms t1, rfl, ?_⟩⟩
    refine iteB (fun e1 => ?_) (fun e1 => ?_)
    · refine ⟨_, rfl, v2, t2, n2, b2, rfl, d2.same s1, fun H2 s2 => ⟨areNms t2, rfl, ?_⟩⟩
      have s12 := s1.trans s2
      cases e2 : areNms t2 with
      | false =>
        refine iteT ?_
        show Q (.bl false) H2
        have z : areCols t1 t2 = false := by
          unfold areCols
          rw [e2, Bool.false_and, Bool.and_false]
        rw [← z]
        exact k H2 s12
      | true =>
        refine iteF ?_
        obtain ⟨a, ss, rfl, rfl, ha, la, _⟩ := d1.names e1
        obtain ⟨b, zs, rfl, rfl, hb, lb, _⟩ := d2.names e2
        have ha := ha.sq
        have hb := hb.sq
        have z : areCols (.tup (ss.map Tr.str)) (.tup (zs.map Tr.str)) = colsOk (ss ++ zs) := by
          unfold areCols
          rw [e1, e2, Bool.true_and, Bool.true_and, strsOf_map, strsOf_map]
        rw [z] at k
        refine ⟨_, rfl, _, rfl, a, b, ss, zs, rfl, rfl, sameT s12 ha, sameT s12 hb, ?_, fun q H3 s3 hq => ?_⟩
        · have : sizeLine > 4 := by decide
          omega
        have s13 := s12.trans s3
        refine ⟨_, rfl, q, _, rfl, .inr hq, _, _, rfl, rfl, _, rfl, ?_⟩
        rw [List.length_map]
        refine ite_ (fun c => ?_) (fun c => ?_)
        · refine ⟨_, rfl, q, ss ++ zs, rfl, hq, by rw [List.length_append]; omega, _, rfl, q, _, rfl, .inr hq, rfl, ?_⟩
          rw [List.length_map]
          have m := many_all (xs := ss ++ zs) (Nat.le_refl _)
          rw [List.take_length] at m
          have z2 : decide (V.int (many (ss ++ zs) (ss ++ zs).length : Nat) = V.int ((ss ++ zs).length : Nat)) = colsOk (ss ++ zs) := by
            unfold colsOk
            rw [decide_eq_true (show 0 < (ss ++ zs).length by omega), Bool.true_and]
            by_cases nd : (ss ++ zs).Nodup
            · rw [decide_eq_true nd, m.mpr nd]
              exact decide_eq_true rfl
            · rw [decide_eq_false nd]
              refine decide_eq_false fun y => nd (m.mp ?_)
              have := V.int.inj y
              omega
          show Q (.bl (decide (V.int (many (ss ++ zs) (ss ++ zs).length : Nat) = V.int ((ss ++ zs).length : Nat)))) H3
          rw [z2]
          exact k H3 s13
        · have z3 : colsOk (ss ++ zs) = false := by
            unfold colsOk
            rw [decide_eq_false (show ¬ 0 < (ss ++ zs).length by omega), Bool.false_and]
          rw [z3] at k
          exact k H3 s13
    · refine iteT ?_
      show Q (.bl false) H1
      have z : areCols t1 t2 = false := by
        unfold areCols
        rw [e1, Bool.false_and]
      rw [← z]
      exact k H1 s1
end
end Vm
namespace Vm
open PySem L2
abbrev sInit : Stmt := inClass (top 17) 0
abbrev sColumns : Stmt := inClass (top 17) 1
abbrev sIsRow : Stmt := inClass (top 17) 2
abbrev sClash : Stmt := inClass (top 17) 3
abbrev sEq : Stmt := inClass (top 17) 4
section
variable {X : Cx}
/-- C(), an own exception class without __init__ -/
theorem pe_xbare {C : Addr} {bmB : List Value} {B nid initId : String} {x : Str} {p pos : Pos} (F : ExcBaseFacts B nid initId bmB) (q : PySem.W.excIn X.K C bmB nid = true) (gC : X.mg x = some (.ref C)) (kC : PySem.W.keepIn X.K (.ref C) = true) (hg : Gl X x)
    (hdb : (x == ("__debug__" : Str)) = false := by decide) : PE X (.Call (.Name x p) [] [] pos) (fun _ H Q => ∀ a, H a = none → Q (.ref a) (upd H a (ExO (.ref C) a))) := by
  refine ⟨fun pins s σ H Q I h => ?_⟩
  refine wpAny_Call_Name_kw (ld_glob I hg gC ?_ hdb)
  refine PySem.W.callWith_K0 I.kIn kC ?_
  show wpAny _ _ (call (.ref C) []) _ _ _
  obtain ⟨bm, N, nm, qn, bs, hdct, sn, sub, ab, col, dd, k0, k1, k2, k3, k5, mN, hC, hN, hni, T⟩ := exc_obj I.kIn q
  refine wpAny_call_exc_subT F T hC hN hni (fun h' a hm => ?_) (Nat.zero_le _)
  have hn : H a = none := I.hok.gone hm.new
  obtain ⟨t, ht, _, _⟩ := hm.there
  exact ⟨.ref a, upd H a (ExO (.ref C) a), I.laidN hm.keeps hm.new hn (exO_ok ht ⟨rfl, rfl⟩ rfl rfl rfl (show 4 < 6 by decide)), rfl, h a hn⟩
end
/-- four values that make a table -/
def valid (t1 t2 t3 t4 : Tr) : Bool := isNm t1 && (areCols t2 t3 && isKey t4 (strsOf t2 ++ strsOf t3))
abbrev flds (v1 v2 v3 v4 : V) : List (Str × V) := [("name", v1), ("names", v2), ("numbers", v3), ("key", v4)]
/-- what the written part says of the class Table, of InvalidTable -/
structure TxtT (K : PySem.W.Frag) (mg : Str → Option Value) (C CI fCols fKey : Addr) : Prop where
  cl : Cls K C
  n1 : NoAttr K C "name"
  n2 : NoAttr K C "names"
  n3 : NoAttr K C "numbers"
  n4 : NoAttr K C "key"
  gC : mg "Table" = some (.ref C)
  gI : mg "InvalidTable" = some (.ref CI)
  kI : PySem.W.keepIn K (.ref CI) = true
  xI : PySem.W.excIn K CI [.type "ValueError", .type "Exception", .type "BaseException", .type "object"] "ValueError.__new__" = true
  bI : PySem.W.subIn K (.ref CI) (.type "BaseException") = some true
  tI : PySem.W.typeIn K (.ref CI) = some (.type "type")
  gCols : mg "_are_columns" = some (.ref fCols)
  kCols : PySem.W.keepIn K (.ref fCols) = true
  gKey : mg "_is_key" = some (.ref fKey)
  kKey : PySem.W.keepIn K (.ref fKey) = true
def spInit (K : PySem.W.Frag) (C CI : Addr) : Sp := fun vs H Q E => ∃ (e dx : Addr) (v1 v2 v3 v4 : V) (t1 t2 t3 t4 : Tr) (n1 n2 n3 n4 : Nat) (b1 b2 b3 b4 : List Addr), vs = [.ref e, v1, v2, v3, v4] ∧ H e = some (.ins C dx []) ∧
  Dt K H v1 t1 n1 b1 ∧ Dt K H v2 t2 n2 b2 ∧ Dt K H v3 t3 n3 b3 ∧ Dt K H v4 t4 n4 b4 ∧
  (valid t1 t2 t3 t4 = true → ∀ H', (∀ b o, b ≠ e → H b = some o → H' b = some o) → H' e = some (.ins C dx (flds v1 v2 v3 v4)) → Q .non H') ∧ (valid t1 t2 t3 t4 = false → ∀ H', Same H H' → E (.ref CI) none H')
section
variable {P : Program} {w : World} {K : PySem.W.Frag} {mg : Str → Option Value} {base : Heap} {fNm fNms fCols fKey C CI : Addr} {fdNm fdCols fdKey : FuncData}
theorem scInit : FnScope ["self", "name", "names", "numbers", "key"] ["self", "name", "names", "numbers", "key"] (defScope sInit) := ⟨rfl, rfl, rfl, by decide +kernel, rfl, by decide +kernel, by decide +kernel⟩
theorem ok_init {f : Addr} {fd : FuncData} {dvs : List V} {kws : List (Str × V)} (F : FunD K "__init__" "Table.__init__" (defArgs sInit) (defBody sInit) (defScope sInit) dvs kws f fd) (T : TxtP K mg fNm fNms) (U : TxtT K mg C CI fCols fKey)
    (GN : FnOk P w K mg base CX0 1 fNm fdNm ["thing"] (spTest K isNm)) (bN : Binds K fdNm ["thing"] []) (GC : FnOk P w K mg base CX0 3 fCols fdCols ["names", "numbers"] (spCols K)) (bC : Binds K fdCols ["names", "numbers"] [])
    (GK : FnOk P w K mg base CX0 1 fKey fdKey ["thing", "columns"] (spKey K)) (bK : Binds K fdKey ["thing", "columns"] []) :
    FnOk P w K mg base (L2.CX P w) 4 f fd ["self", "name", "names", "numbers", "key"] (spInit K C CI) := by
  refine F.ok scInit (fun vs H Q E h => ?_) (fun cdv A outer s H vs Q E hr h => ?_)
  · obtain ⟨e, dx, v1, v2, v3, v4, t1, t2, t3, t4, n1, n2, n3, n4, b1, b2, b3, b4, rfl, _⟩ := h
    rfl
  · obtain ⟨e, dx, v1, v2, v3, v4, t1, t2, t3, t4, n1, n2, n3, n4, b1, b2, b3, b4, rfl, he, d1, d2, d3, d4, yes, no⟩ := h
    have hr1 : Room 1 _ := hr.mono (by decide)
    refine ⟨_, pss_cons (ps_if (pt_not (PW.pt (pw_and (pt_truth (pe_call GN hr1 rfl T.gNm T.kNm bN .nil pass0 (pa_cons (pv 1) pa_nil)) (fun _ => rfl))
          (pw_and (pt_truth (pe_call GC hr rfl U.gCols U.kCols bC .nil pass0 (pa_cons (pv 2) (pa_cons (pv 3) pa_nil))) (fun _ => rfl))
          (pw_and1 (pt_truth (pe_call GK hr1 rfl U.gKey U.kKey bK .nil pass0 (pa_cons (pv 4) (pa_cons (pe_op op_catS (pv 2) (pv 3)) pa_nil))) (fun _ => rfl)))))))
        (pss_one (ps_raise rfl (takes_of rfl rfl rfl rfl) (pmk_ret rfl (pe_xbare PySem.F.excBase_ValueError U.xI U.gI U.kI rfl)))) pss_nil)
      (pss_cons (ps_fld (pv 0) (pv 1) rfl) (pss_cons (ps_fld (pv 0) (pv 2) rfl) (pss_cons (ps_fld (pv 0) (pv 3) rfl) (pss_one (ps_fld (pv 0) (pv 4) rfl))))), ?_⟩
    have bad : valid t1 t2 t3 t4 = false → ∀ H', Same H H' → ∀ a, H' a = none → ∃ (a' : Addr) (cls : Value), V.ref a = .ref a' ∧ upd H' a (ExO (.ref CI) a) a' = some (ExO cls a') ∧ Fr0 H a' ∧
        Raises (cxOf (L2.CX P w) P w K mg base ["self", "name", "names", "numbers", "key"] "Table.__init__" (defScope sInit) f cdv A outer s H E) cls ∧ E cls none (delH (upd H' a (ExO (.ref CI) a)) a') := fun z H' s' a na => by
      refine ⟨a, .ref CI, rfl, upd_same, ?_, raises_own U.bI U.tI, ?_⟩
      · exact fr0_none (s'.free na)
      · rw [delH_new na]
        exact no z H' s'
    refine ⟨_, rfl, v1, t1, n1, b1, rfl, d1, fun H1 s1 => ⟨isNm t1, rfl, ?_⟩⟩
    refine iteB (fun e1 => ?_) (fun e1 => ?_)
    · refine ⟨_, rfl, _, rfl, v2, v3, t2, t3, n2, n3, b2, b3, rfl, d2.same s1, d3.same s1, fun H2 s2 => ⟨areCols t2 t3, rfl, ?_⟩⟩
      have s12 := s1.trans s2
      refine iteB (fun e2 => ?_) (fun e2 => ?_)
      · have e2' := e2
        unfold areCols at e2'
        rw [Bool.and_eq_true, Bool.and_eq_true] at e2'
        obtain ⟨a, ss, rfl, rfl, ha, la, _⟩ := d2.names e2'.1
        obtain ⟨b, zs, rfl, rfl, hb, lb, _⟩ := d3.names e2'.2.1
        have ha := ha.sq
        have hb := hb.sq
        have l4 : ss.length + zs.length ≤ 4 := by omega
        refine ⟨_, rfl, _, rfl, _, rfl, a, b, ss, zs, rfl, rfl, sameT s12 ha, sameT s12 hb, ?_, fun q H3 s3 hq => ?_⟩
        · have : sizeLine > 4 := by decide
          omega
        have s13 := s12.trans s3
        refine ⟨v4, t4, n4, b4, q, ss ++ zs, rfl, d4.same s13, hq, by rw [List.length_append]; exact l4, fun H4 s4 => ⟨isKey t4 (ss ++ zs), rfl, ?_⟩⟩
        have s14 := s13.trans s4
        have z : valid t1 (.tup (ss.map Tr.str)) (.tup (zs.map Tr.str)) t4 = isKey t4 (ss ++ zs) := by
          unfold valid
          rw [e1, e2, Bool.true_and, Bool.true_and, strsOf_map, strsOf_map]
        cases e3 : isKey t4 (ss ++ zs) with
        | false =>
          refine iteT ?_
          exact bad (z.trans e3) H4 s14
        | true =>
          refine iteF ?_
          refine ⟨_, rfl, _, rfl, e, C, dx, _, rfl, s14 _ _ he, U.cl, U.n1, by decide, ?_⟩
          refine ⟨_, rfl, _, rfl, e, C, dx, _, rfl, upd_same, U.cl, U.n2, (by show 1 < 1000; decide), ?_⟩
          refine ⟨_, rfl, _, rfl, e, C, dx, _, rfl, upd_same, U.cl, U.n3, (by show 2 < 1000; decide), ?_⟩
          refine ⟨_, rfl, _, rfl, e, C, dx, _, rfl, upd_same, U.cl, U.n4, (by show 3 < 1000; decide), ?_⟩
          refine yes (z.trans e3) _ (fun b o nb q => ?_) upd_same
          rw [upd_ne nb, upd_ne nb, upd_ne nb, upd_ne nb]
          exact s14 b o q
      · refine iteT ?_
        refine bad ?_ H2 s12
        unfold valid
        rw [e2, Bool.false_and, Bool.and_false]
    · refine iteT ?_
      refine bad ?_ H1 s1
      unfold valid
      rw [e1, Bool.false_and]
end
end Vm
namespace Vm
open PySem L2
/-- a table stands at a -/
structure Tb (K : PySem.W.Frag) (H : Hp) (C a : Addr) (nm : Str) (ss zs ks : List Str) : Prop where
  ex : ∃ dx a2 a3 a4, H a = some (.ins C dx (flds (.str nm) (.ref a2) (.ref a3) (.ref a4))) ∧ TupE K H a2 (ss.map V.str) ∧ TupE K H a3 (zs.map V.str) ∧ TupE K H a4 (ks.map V.str)
  l2 : ss.length ≤ 2
  l3 : zs.length ≤ 2
  l4 : ks.length ≤ 4
theorem Tb.same {K : PySem.W.Frag} {H H' : Hp} {C a : Addr} {nm : Str} {ss zs ks : List Str} (t : Tb K H C a nm ss zs ks) (k : Same H H') : Tb K H' C a nm ss zs ks := by
  obtain ⟨⟨dx, a2, a3, a4, h, h2, h3, h4⟩, l2, l3, l4⟩ := t
  exact ⟨⟨dx, a2, a3, a4, k _ _ h, h2.same k, h3.same k, h4.same k⟩, l2, l3, l4⟩
def isRow (a b : Nat) : Tr → Bool
  | .tup ts => decide (ts.length = a + b) && ((ts.take a).all isNm && (ts.drop a).all isNum)
  | _ => false
def spRow (K : PySem.W.Frag) (C : Addr) : Sp := fun vs H Q _ => ∃ (a : Addr) (nm : Str) (ss zs ks : List Str) (v : V) (t : Tr) (n : Nat) (bs : List Addr), vs = [.ref a, v] ∧ Tb K H C a nm ss zs ks ∧ Dt K H v t n bs ∧
  ∀ H', Same H H' → Q (.bl (isRow ss.length zs.length t)) H'
theorem cut_take (xs : List V) (k : Nat) : cutV xs none (some (k : Int)) = xs.take k := by
  have e := HT.sIx_nat xs.length xs.length k
  unfold cutV
  rw [e]
  show (xs.drop 0).take (min k xs.length - 0) = _
  rw [List.drop_zero, Nat.sub_zero, List.take_eq_take_iff.mpr]
  omega
theorem cut_drop (xs : List V) (k : Nat) : cutV xs (some (k : Int)) none = xs.drop k := by
  have e := HT.sIx_nat xs.length 0 k
  unfold cutV
  rw [e]
  show (xs.drop (min k xs.length)).take (xs.length - min k xs.length) = _
  rw [List.take_of_length_le (by rw [List.length_drop]; omega)]
  by_cases h : k ≤ xs.length
  · rw [Nat.min_eq_left h]
  · rw [Nat.min_eq_right (by omega), List.drop_of_length_le (Nat.le_refl _), List.drop_of_length_le (by omega)]
section
variable {X : Cx}
/-- t[:k], t[k:] -/
def rCut (K : PySem.W.Frag) : V → Option Int → Option Int → Hp → VK → Prop := fun x lo hi H Q => ∃ a xs, x = .ref a ∧ SqT K H a xs ∧ ∀ (q : Addr) (H' : Hp), Same H H' → SqT K H' q (cutV xs lo hi) → Q (.ref q) H'
theorem cut_all (xs : List V) (lo hi : Option Int) (h : HT.sIx xs.length 0 lo = 0 ∧ HT.sIx xs.length xs.length hi = xs.length) : cutV xs lo hi = xs := by
  unfold cutV
  rw [h.1, h.2, List.drop_zero, Nat.sub_zero, List.take_length]
theorem sl_cut : SlR X (rCut X.K) := by
  intro pins s σ H x v vl vu lo hi sl Q I rx hs pl pu h
  obtain ⟨a, xs, rfl, hx, q⟩ := h
  refine sl_tupA pins s σ H _ v vl vu lo hi sl Q I rx hs pl pu ⟨a, xs, rfl, hx, fun z => ?_, fun _ p hp => ?_⟩
  · refine q a H (Same.refl H) ?_
    rw [cut_all xs lo hi z]
    exact hx
  · exact q p _ (same_upd hp) (SqT.of upd_same)
end
section
variable {P : Program} {w : World} {K : PySem.W.Frag} {mg : Str → Option Value} {base : Heap} {fNm fNms fCols fKey fNum C CI : Addr} {fdNm fdNum : FuncData}
theorem scIsRow : FnScope ["self", "thing", "split", "value"] ["self", "thing"] (defScope sIsRow) := ⟨rfl, rfl, rfl, by decide +kernel, rfl, by decide +kernel, by decide +kernel⟩
theorem ok_isrow {f : Addr} {fd : FuncData} (F : Fun K "is_row" "Table.is_row" sIsRow f fd) (T : TxtP K mg fNm fNms) (U : TxtT K mg C CI fCols fKey)
    (GN : FnOk P w K mg base CX0 1 fNm fdNm ["thing"] (spTest K isNm)) (bN : Binds K fdNm ["thing"] []) (GU : FnOk P w K mg base CX0 1 fNum fdNum ["thing"] (spTest K isNum)) (gU : mg "is_number" = some (.ref fNum)) (kU : PySem.W.keepIn K (.ref fNum) = true) (bU : Binds K fdNum ["thing"] []) :
    FnOk P w K mg base CX0 2 f fd ["self", "thing"] (spRow K C) := by
  refine F.ok scIsRow (fun vs H Q E h => ?_) (fun cdv A outer s H vs Q E hr h => ?_)
  · obtain ⟨a, nm, ss, zs, ks, v, t, n, bs, rfl, _⟩ := h
    rfl
  · obtain ⟨a, nm, ss, zs, ks, v, t, n, bs, rfl, tb, d, k⟩ := h
    obtain ⟨⟨dx, a2, a3, a4, ha, h2, h3, h4⟩, l2, l3, l4⟩ := tb
    have h2 := h2.sq
    have h3 := h3.sq
    have h4 := h4.sq
    refine ⟨_, pss_cons (ps_if (PW.pt (pw_or (pt_not (pt_truth (pe_callB call_isi (by rfl) T.isi (by decide +kernel) (pa_cons (pv 1) (pa_cons (pe_bltn (v := .ty "tuple") (by rfl) T.tuple (by decide +kernel) rfl) pa_nil))) (fun _ => rfl)))
          (pw_or1 (pt_cmpR op_ne (pe_callB call_len_seq (by rfl) T.len (by decide +kernel) (pa_cons (pv 1) pa_nil))
            (pe_op op_add (pe_callB call_len_seq (by rfl) T.len (by decide +kernel) (pa_cons (pe_fld (pv 0) rfl) pa_nil)) (pe_callB call_len_seq (by rfl) T.len (by decide +kernel) (pa_cons (pe_fld (pv 0) rfl) pa_nil))) (nomark _)))))
        (pss_one (ps_ret pe_bl)) pss_nil)
      (pss_cons (ps_set (i := 2) scIsRow.nd rfl (Or.inl rfl) (pe_callB call_len_seq (by rfl) T.len (by decide +kernel) (pa_cons (pe_fld (pv 0) rfl) pa_nil)))
      (pss_one (ps_ret (pe_and (pe_callB (cr_all rfl) (by rfl) T.all (by decide +kernel) (pa_cons (pe_lc (own := [("value", 3)]) (g := gName 3) (tt := tYes) rfl scIsRow.nd (pi_tup (pe_slice sl_cut (pv 1) po_none (po_some (pv 2))))
            (blkOk_by (N := ["self", "thing", "split", "value"]) (sc := defScope sIsRow) (by decide +kernel)) (fun _ _ _ _ _ => pg_name (i := 3) scIsRow.nd rfl (Or.inl rfl)) (fun _ _ _ _ _ => pts_nil)
            (fun _ _ _ _ _ => pe_call GN hr rfl T.gNm T.kNm bN .nil pass0 (pa_cons (pv 3) pa_nil))) pa_nil))
          (pe_one (pe_callB (cr_all rfl) (by rfl) T.all (by decide +kernel) (pa_cons (pe_lc (own := [("value", 3)]) (g := gName 3) (tt := tYes) rfl scIsRow.nd (pi_tup (pe_slice sl_cut (pv 1) (po_some (pv 2)) po_none))
            (blkOk_by (N := ["self", "thing", "split", "value"]) (sc := defScope sIsRow) (by decide +kernel)) (fun _ _ _ _ _ => pg_name (i := 3) scIsRow.nd rfl (Or.inl rfl)) (fun _ _ _ _ _ => pts_nil)
            (fun _ _ _ _ _ => pe_call GU hr rfl gU kU bU .nil pass0 (pa_cons (pv 3) pa_nil))) pa_nil))))))), ?_⟩
    refine ⟨_, rfl, v, _, _, _, isTup t, rfl, .ty _, d.ty, kit_tup t, isTup t, rfl, ?_⟩
    have no : isRow ss.length zs.length t = false → ∀ H', Same H H' → Q (.bl false) H' := fun z H' s' => by
      rw [← z]
      exact k H' s'
    cases ht : isTup t with
    | false =>
      refine iteT (iteT (no ?_ H (Same.refl H)))
      cases t <;> first | rfl | cases ht
    | true =>
      obtain ⟨b, xs, ts, m, cs, rfl, rfl, _, hb, r, _⟩ := d.tupOf ht
      have hl := r.length
      refine iteF ?_
      refine ⟨_, rfl, b, xs, rfl, .inr hb, _, rfl, a, C, dx, _, _, rfl, ha, U.cl, U.n2, rfl, a2, _, rfl, .inr h2, _, rfl, a, C, dx, _, _, rfl, ha, U.cl, U.n3, rfl, a3, _, rfl, .inr h3, _, _, rfl, rfl, rfl, _, rfl, ?_⟩
      refine iteB (fun e => ?_) (fun e => ?_)
      · refine no ?_ H (Same.refl H)
        show (decide (ts.length = ss.length + zs.length) && _) = false
        rw [Bool.not_eq_true', decide_eq_false_iff_not, List.length_map, List.length_map] at e
        rw [decide_eq_false (fun z => e (by rw [hl, z]; rfl)), Bool.false_and]
      have el : ts.length = ss.length + zs.length := by
        rw [Bool.not_eq_false', decide_eq_true_eq, List.length_map, List.length_map] at e
        have := V.int.inj e
        omega
      obtain ⟨⟨c1, r1, _⟩, ⟨c2, r2, _⟩⟩ := r.part ss.length
      have row : isRow ss.length zs.length (.tup ts) = ((ts.take ss.length).all isNm && (ts.drop ss.length).all isNum) := by
        show (decide (ts.length = ss.length + zs.length) && _) = _
        rw [decide_eq_true el, Bool.true_and]
      refine ⟨_, rfl, a, C, dx, _, _, rfl, ha, U.cl, U.n2, rfl, a2, _, rfl, .inr h2, ?_⟩
      refine ⟨_, rfl, _, rfl, ((ss.map V.str).length : Nat), rfl, b, xs, rfl, hb, fun q H1 s1 hq => ⟨q, rfl, ⟨_, hq⟩, fun D hD => ?_⟩⟩
      rw [cut_take, List.length_map] at hq
      refine lc_tup (K := K) (a := q) (xs := xs.take ss.length) (fun i H' => Same H1 H' ∧ H' D = some (.lst ((((ts.take ss.length).take i).map isNm).map V.bl))) ⟨same_upd hD, upd_same⟩ (fun i H' _ z => sameT z.1 hq) ?_ ?_
      · rintro i y H3 hi ⟨s3, e3⟩
        refine ⟨rfl, ?_⟩
        dsimp only [tYes]
        rw [if_pos rfl]
        obtain ⟨t, ct, et, dt, _⟩ := (r1.same s1).get hi
        refine ⟨_, rfl, y, t, _, ct, rfl, dt.same s3, fun H4 s4 => ⟨_, s4 _ _ e3, ?_, fun b o e => ?_, ?_⟩⟩
        · rw [List.length_map, List.length_map, List.length_take]
          have : sizeLine > 8 := by decide
          have : (ts.take ss.length).length ≤ ts.length := by
            simp only [List.length_take, List.length_drop]
            omega
          omega
        · rw [upd_ne (ne_of_none e hD)]
          exact s4 b o (s3 b o e)
        · rw [upd_same, List.take_add_one, et]
          simp
      rintro H2 ⟨s2, e2⟩
      refine ⟨D, _, rfl, SqL.of e2, _, rfl, ?_⟩
      have z1 : (((((ts.take ss.length).take (xs.take ss.length).length).map isNm)).all id) = (ts.take ss.length).all isNm := by
        have l : (xs.take ss.length).length = (ts.take ss.length).length := r1.length
        rw [l, List.take_length, List.all_map]
        rfl
      rw [z1]
      have s12 := s1.trans s2
      refine iteB (fun e1 => ?_) (fun e1 => ?_)
      · refine ⟨_, rfl, _, rfl, ((ss.map V.str).length : Nat), rfl, b, xs, rfl, sameT s12 hb, fun q2 H3 s3' hq2 => ⟨q2, rfl, ⟨_, hq2⟩, fun D2 hD2 => ?_⟩⟩
        rw [cut_drop, List.length_map] at hq2
        have s13 := s12.trans s3'
        refine lc_tup (K := K) (a := q2) (xs := xs.drop ss.length) (fun i H' => Same H3 H' ∧ H' D2 = some (.lst ((((ts.drop ss.length).take i).map isNum).map V.bl))) ⟨same_upd hD2, upd_same⟩ (fun i H' _ z => sameT z.1 hq2) ?_ ?_
        · rintro i y H5 hi ⟨s3, e3⟩
          refine ⟨rfl, ?_⟩
          dsimp only [tYes]
          rw [if_pos rfl]
          obtain ⟨t, ct, et, dt, _⟩ := (r2.same s13).get hi
          refine ⟨_, rfl, y, t, _, ct, rfl, dt.same s3, fun H6 s4 => ⟨_, s4 _ _ e3, ?_, fun b o e => ?_, ?_⟩⟩
          · rw [List.length_map, List.length_map, List.length_take]
            have : sizeLine > 8 := by decide
            have : (ts.drop ss.length).length ≤ ts.length := by
              simp only [List.length_take, List.length_drop]
              omega
            omega
          · rw [upd_ne (ne_of_none e hD2)]
            exact s4 b o (s3 b o e)
          · rw [upd_same, List.take_add_one, et]
            simp
        rintro H4 ⟨s4, e4⟩
        refine ⟨D2, _, rfl, SqL.of e4, ?_⟩
        have z2 : ((((ts.drop ss.length).take (xs.drop ss.length).length).map isNum).all id) = (ts.drop ss.length).all isNum := by
          have l : (xs.drop ss.length).length = (ts.drop ss.length).length := r2.length
          rw [l, List.take_length, List.all_map]
          rfl
        rw [z2]
        rw [row, e1, Bool.true_and] at k
        exact k H4 (s13.trans s4)
      · rw [row, e1, Bool.false_and] at k
        exact k H2 s12
end
end Vm
namespace Vm
open PySem PySem.Spec PyProof.Rows L2
open AutoSeq1 (wpAny_loadPart')
open MeetsSeq
/-! for i, x in enumerate(t), t a tuple -/
theorem new_enum (t : Addr) (items : Array Value) (n : Nat) (dd : Option Addr) (sl : Array (Option Value)) :
    Meets (Builtin.«enumerate.__new__» ⟨[.type "enumerate", .ref t], []⟩) (fun _ R s => s.heap.get? t = some { cls := .type "tuple", dict := dd, data := .seq items n, slots := sl } ∧
      R (.ok (.ret (.ref (s.heap.push { cls := .type "tuple_iterator", data := .fields #[.ref t, .int 0 0] }).objs.size)))
        { s with heap := (s.heap.push { cls := .type "tuple_iterator", data := .fields #[.ref t, .int 0 0] }).push { cls := .type "enumerate", data := .fields #[.none, .bool false, .ref s.heap.objs.size, rawInt 0, .none, .none] } }) :=
  .of_wp fun prog w A R s h => by
    obtain ⟨hp, g, d, tk, os⟩ := s
    obtain ⟨hl, h⟩ := h
    have tup : hp.IsTuple t items := ⟨_, hl, rfl, n, rfl⟩
    have sub := sub_enumerate
    wp_walk using wpAny_loadPart' hl
    refine wpAny_stack_any fun st => wpAny_pure ?_
    split
    · rename_i c _ _ _ _ _
      cases (c == Value.type "enumerate") <;> (wp_walk using wpAny_loadPart' hl, wpAny_pyIter_tuple tup; exact ⟨_, rfl, h⟩)
    · wp_walk using wpAny_loadPart' hl, wpAny_pyIter_tuple tup
      exact ⟨_, rfl, h⟩
section
variable {prog : Program} {w : World} {A : Around} {E : Value → Shared → Prop} {s : Shared}
abbrev itOf (t : Addr) : Obj := { cls := .type "tuple_iterator", data := .fields #[.ref t, .int 0 0] }
theorem call_enum {t : Addr} {items : Array Value} {Q : Value → Shared → Prop} (ht : s.heap.IsTuple t items)
    (go : ∀ h', IsEnum h' (s.heap.objs.size + 1) s.heap.objs.size 0 .none → h'.IsTupleIter s.heap.objs.size t 0 → h'.objs.size = s.heap.objs.size + 2 → (∀ b o, s.heap.get? b = some o → h'.get? b = some o) →
      Q (.ref (s.heap.objs.size + 1)) { s with heap := h' }) : wpAny (model prog w) A (call (.type "enumerate") [.ref t]) Q E s := by
  obtain ⟨⟨c, dd, dt, sl⟩, hl, hc, n, hd⟩ := ht
  dsimp only at hc hd
  subst hc hd
  refine callType_new F.called_enumerate (by decide) (F.typeCall_enumerate_1 _) (F.newCall_enumerate_1 _) (fun made => F.args_object_init_2 made _) F.entry_enumerate_new (new_enum t items n dd sl) ⟨hl, ?_⟩
  have z : (s.heap.push (itOf t)).objs.size = s.heap.objs.size + 1 := Heap.size_push ..
  show _ ∧ _
  rw [z]
  have e : IsEnum ((s.heap.push (itOf t)).push { cls := .type "enumerate", data := .fields #[.none, .bool false, .ref s.heap.objs.size, rawInt 0, .none, .none] }) (s.heap.objs.size + 1) s.heap.objs.size 0 .none := by
    have y := Heap.get?_push_size (s.heap.push (itOf t)) (o := { cls := .type "enumerate", data := .fields #[.none, .bool false, .ref s.heap.objs.size, rawInt 0, .none, .none] }) rfl
    rwa [z] at y
  exact ⟨⟨_, e, rfl⟩, go _ e ⟨_, Heap.get?_push_of_some _ (Heap.get?_push_size _ rfl), rfl, rfl⟩ (by rw [Heap.size_push, z]) fun b o q => Heap.get?_push_of_some _ (Heap.get?_push_of_some _ q)⟩
end
/-- an iterator at the end of its tuple -/
theorem at_end {prog : Program} {w : World} {A : Around} (calm : A.handled = none) {it t : Addr} {items : Array Value} {i : Nat} (h : items.size ≤ i) :
    Draws prog w A it [it, t] i (fun _ _ => True) (fun j h => j = i ∧ h.IsTupleIter it t i ∧ h.IsTuple t items) where
  live := fun _ _ st => let ⟨o, ho, _⟩ := st.2.1; ⟨o, ho⟩
  frame := fun _ _ _ st k => ⟨st.1, st.2.1.at fun o e => k it (by simp) o e, st.2.2.at fun o e => k t (by simp) o e⟩
  item := fun j s Q E lt st _ => absurd st.1 (Nat.ne_of_lt lt)
  done := fun s Q E st hE => wpAny_nextOf_tuple_end calm st.2.1 st.2.2 (by simp; exact h) hE
/-- the tuple at a, each item in a new pair -/
def Itet (K : PySem.W.Frag) (a : Addr) : It :=
  ⟨fun i H => ∃ (xs : List V) (x : V), SqT K H a xs ∧ xs[i]? = some x, fun i H v H' => ∃ T x, v = .ref T ∧ H T = none ∧ H' = upd H T (.tup [.int (i : Nat), x]) ∧ ∀ xs, SqT K H a xs → xs[i]? = some x, fun i H => ∃ xs : List V, SqT K H a xs ∧ xs.length ≤ i⟩
theorem turn_enumT {P : Program} {w : World} {K : PySem.W.Frag} {elts : List Expr} {kk : Nat} {tpos : Pos} (a e it : Addr) (ae : a ≠ e) (ai : a ≠ it) :
    Turn P w K (.Tuple elts kk tpos) (Itet K a) [e, it] e (fun i h => (∃ old, IsEnum h e it ((i : Nat) : Int) old) ∧ h.IsTupleIter it a i ∧ e ≠ it) where
  mem := by simp
  obj := fun i h st b hb => by
    obtain ⟨⟨old, he⟩, ⟨o, ho, hc, hd⟩, _⟩ := st
    rcases (show b = e ∨ b = it by simpa using hb) with z | z
    · rw [z]
      exact ⟨_, he, fun v q => nomatch q⟩
    · rw [z]
      exact ⟨o, ho, fun v q => by rw [hd] at q; cases q⟩
  keep := fun i h h' st k => ⟨st.1.imp fun old he => k e (by simp) _ he, st.2.1.at fun o q => k it (by simp) o q, st.2.2⟩
  item := by
    intro X hP hw hK hc i pins s σ H E I hf st hg
    subst hP hw hK
    obtain ⟨⟨old, he⟩, hit, hne⟩ := st
    obtain ⟨xs, x, hq, hx⟩ := hg
    obtain ⟨its, rv, p, hz⟩ := I.tuple hq
    obtain ⟨u, hu, ru⟩ := rv.get hx
    have le : e < s.heap.objs.size := Heap.lt_size he
    have li : it < s.heap.objs.size := let ⟨_, q, _⟩ := hit; Heap.lt_size q
    have lt : i < its.toArray.size := by
      have := (List.getElem?_eq_some_iff.mp hu).1
      simpa using this
    have out : e ∉ [it, a] := fun z => (List.mem_cons.mp z).elim hne fun z => ae (List.mem_singleton.mp z).symm
    refine wpAny_pyNext_enum_itemD (Draws.tuple (A := X.A.in1) (by show X.A.handled = none; exact I.ok.hd hc) it a ai its.toArray) he ⟨hit, p⟩ lt hne out fun x' h' tk hx' ho st' hT hsz hk => ?_
    have ex : x' = u := by
      have e1 : its.toArray[i]? = some x' := hx'
      have e2 : its.toArray[i]? = some u := by simpa using hu
      exact Option.some.inj (e1.symm.trans e2)
    subst ex
    refine ⟨_, rfl, wpAny_letOwnedTupleGo_enum (s := { s with heap := h', toks := tk + 1 }) ho fun h2 he2 sb => ?_⟩
    have hT2 : h2.get? s.heap.objs.size = some { cls := .type "tuple", data := .seq #[.int i tk, x'] } := (sb.2 _ (Nat.ne_of_gt le)).trans hT
    have new : ObjOk X.prog X.w (upd H s.heap.objs.size (.tup [.int (i : Nat), x])) h2 s.heap.objs.size (.tup [.int (i : Nat), x]) :=
      ⟨by show 2 ≤ sizeLine; decide, [.int i tk, x'], .cons ⟨_, rfl⟩ (.cons ru .nil), ⟨_, hT2, rfl, _, rfl⟩⟩
    have I1 : Inv X pins σ (upd H s.heap.objs.size (.tup [.int (i : Nat), x])) { s with heap := h2, toks := tk + 1 } :=
      I.turnedNew (ch := [e, it]) (fun b ob hb q => (sb.2 b fun z => hb (by simp [z])).trans (hk b ob (fun z => hb (by simp [z])) (fun z => hb (by simp [z])) q)) hf (Nat.le_refl _) new
    refine ⟨.ref s.heap.objs.size, _, I1, rfl, ⟨_, x, rfl, I.hok.fresh (Nat.le_refl _), rfl, fun ys hy => by rw [I.tuple_inj hy hq]; exact hx⟩, ⟨⟨x', ?_⟩, st'.1.at fun o q => (sb.2 it (Ne.symm hne)).trans q, hne⟩, fun b hb => ?_⟩
    · rw [show ((i + 1 : Nat) : Int) = (i : Int) + 1 by omega]
      exact he2
    · have lb : b < s.heap.objs.size := by
        rcases (show b = e ∨ b = it by simpa using hb) with z | z
        · exact z ▸ le
        · exact z ▸ li
      rw [upd_ne (Nat.ne_of_lt lb)]
      exact (hf b hb).1
  done := by
    intro X hP hw hK hc i pins s σ H E I hf st hg
    subst hP hw hK
    obtain ⟨⟨old, he⟩, hit, hne⟩ := st
    obtain ⟨xs, hq, hx⟩ := hg
    obtain ⟨its, rv, p, hz⟩ := I.tuple hq
    obtain ⟨f0, f1, f2, f3, f4, f5⟩ := hf it (by simp)
    have hl := rv.length
    exact wpAny_pyNext_enum_endD (at_end (A := X.A.in1) (by show X.A.handled = none; exact I.ok.hd hc) (items := its.toArray) (i := i) (by simp; omega)) he ⟨rfl, hit, p⟩ fun h' eb => ⟨rfl, I.turned (t' := s.toks) (fun b o hb q => eb b o hb q) f0 f1 f3 f4 f5⟩
  self := fun A i s Q E st h => let ⟨⟨_, he⟩, _⟩ := st; wpAny_pyIter_enum he h
theorem walk_enumT {K : PySem.W.Frag} {a : Addr} {xs : List V} : Walk (Itet K a) xs.length (fun H => SqT K H a xs) (YPair (fun i => some (.int (i : Nat))) (fun i => xs[i]?)) := by
  refine ⟨fun i _ hi q => ⟨xs, xs[i], q, by simp [hi]⟩, fun _ q => ⟨xs, q, Nat.le_refl _⟩, ?_⟩
  rintro i H v H' _ q ⟨T, x, h1, h2, h3, h4⟩
  exact ⟨T, .int (i : Nat), x, h1, h2, h3, rfl, h4 xs q⟩
def iEnumT (K : PySem.W.Frag) (ta : TA) : TI := fun σ H R => ta σ H fun vs H1 => ∃ a xs, vs = [.ref a] ∧ SqT K H1 a xs ∧ R (Itet K a) H1
theorem pi_enumT {X : Cx} {e : Expr} {ta : TA} {p pos tpos : Pos} {elts : List Expr} {kk : Nat} (hg : Gl X "enumerate") (hm : X.mg "enumerate" = none) (ha : PA X [e] ta) (hs : starEach [e] X.env = [(false, eval e X.env)] := by rfl) :
    PI X (.Tuple elts kk tpos) (.Call (.Name "enumerate" p) [e] [] pos) (iEnumT X.K ta) := by
  constructor
  intro pins s σ H R I h
  refine Call_ (ld_blt I hg hm boot_enumerate (PyProof.Rows.callWith_type1 (thn (ha.run pos pins s σ H _ I h) ?_) hs rfl))
  rintro us s1 ⟨vs, H1, I1, r1, a, xs, rfl, hq, q⟩
  obtain ⟨u, rfl, ru⟩ := vals1 r1
  cases ru
  obtain ⟨its, rv, tup, _⟩ := I1.tuple hq
  have la : a < s1.heap.objs.size := let ⟨_, e, _⟩ := tup; Heap.lt_size e
  refine call_enum tup fun h' he hit hsz hk => wpAny_pyIter_enum he ?_
  refine ⟨s1.heap.objs.size + 1, [s1.heap.objs.size + 1, s1.heap.objs.size], _, _, H1, rfl, I1.kept (t' := s1.toks) hk, turn_enumT a (s1.heap.objs.size + 1) s1.heap.objs.size (Nat.ne_of_lt (Nat.lt_succ_of_lt la)) (Nat.ne_of_lt la), ⟨⟨.none, he⟩, hit, Nat.succ_ne_self _⟩, fun b hb => ?_, q⟩
  have far : s1.heap.objs.size ≤ b := by
    rcases (show b = s1.heap.objs.size + 1 ∨ b = s1.heap.objs.size by simpa using hb) with z | z
    · rw [z]
      exact Nat.le_succ _
    · rw [z]
      exact Nat.le_refl _
  exact I1.fpOk far (I1.hok.fresh far)
end Vm
namespace Vm
open PySem L2
/-- the places of the columns that belong to the key -/
def places (cols ks : List Str) (n : Nat) : List Nat := (List.range n).filter fun i => ks.any (· == cols.getD i Str.empty)
def sameAt (xs ys : List V) (i : Nat) : Bool := decide (xs.getD i .non = ys.getD i .non)
def clashB (cols ks : List Str) (xs ys : List V) : Bool := decide (0 < (places cols ks cols.length).length) && (places cols ks cols.length).all (sameAt xs ys)
def spColumns (K : PySem.W.Frag) (C : Addr) : Sp := fun vs H Q _ => ∃ (a : Addr) (nm : Str) (ss zs ks : List Str), vs = [.ref a] ∧ Tb K H C a nm ss zs ks ∧ ∀ (q : Addr) (H' : Hp), Same H H' → TupE K H' q ((ss ++ zs).map V.str) → Q (.ref q) H'
def spClash (K : PySem.W.Frag) (C : Addr) : Sp := fun vs H Q _ => ∃ (a p q : Addr) (nm : Str) (ss zs ks : List Str) (xs ys : List V), vs = [.ref a, .ref p, .ref q] ∧ Tb K H C a nm ss zs ks ∧ SqT K H p xs ∧ SqT K H q ys ∧
  xs.length = ss.length + zs.length ∧ ys.length = ss.length + zs.length ∧ (∀ (i : Nat) x y, xs[i]? = some x → ys[i]? = some y → scal x y = true) ∧ ∀ H', Same H H' → Q (.bl (clashB (ss ++ zs) ks xs ys)) H'
theorem places_succ (cols ks : List Str) (n : Nat) : places cols ks (n + 1) = if ks.any (· == cols.getD n Str.empty) = true then places cols ks n ++ [n] else places cols ks n := by
  unfold places
  rw [List.range_succ, List.filter_append]
  by_cases e : ks.any (· == cols.getD n Str.empty) = true
  · rw [if_pos e]
    simp only [List.filter_cons, List.filter_nil]
    rw [if_pos e]
  · rw [if_neg e]
    simp only [List.filter_cons, List.filter_nil]
    rw [if_neg e, List.append_nil]
theorem places_le (cols ks : List Str) (n : Nat) : (places cols ks n).length ≤ n := by
  have h := List.length_filter_le (fun i => ks.any (· == cols.getD i Str.empty)) (List.range n)
  rw [List.length_range] at h
  exact h
theorem places_mem {cols ks : List Str} {n i j : Nat} (h : (places cols ks n)[j]? = some i) : i < n := by
  have m := List.mem_of_getElem? h
  exact List.mem_range.mp (List.mem_filter.mp m).1
theorem inV_str (z : Str) : ∀ ks : List Str, inV (.str z) (ks.map V.str) = ks.any (· == z)
  | [] => rfl
  | k :: r => by
    have ih := inV_str z r
    unfold inV at ih ⊢
    rw [List.map_cons, List.any_cons, List.any_cons, ih]
    rfl
theorem flat_strs : ∀ ks : List Str, (ks.map V.str).all flatV = true
  | [] => rfl
  | k :: r => by
    rw [List.map_cons, List.all_cons, flat_strs r]
    rfl
section
variable {P : Program} {w : World} {K : PySem.W.Frag} {mg : Str → Option Value} {base : Heap} {fNm fNms fCols fKey C CI pC gC : Addr} {fdG : FuncData}
theorem scColumns : FnScope ["self"] ["self"] (defScope sColumns) := ⟨rfl, rfl, rfl, by decide +kernel, rfl, by decide +kernel, by decide +kernel⟩
theorem ok_columns {f : Addr} {fd : FuncData} (F : Fun K "columns" "Table.columns" sColumns f fd) (U : TxtT K mg C CI fCols fKey) : FnOk P w K mg base CX0 1 f fd ["self"] (spColumns K C) := by
  refine F.ok scColumns (fun vs H Q E h => ?_) (fun cdv A outer s H vs Q E hr h => ?_)
  · obtain ⟨a, nm, ss, zs, ks, rfl, _⟩ := h
    rfl
  · obtain ⟨a, nm, ss, zs, ks, rfl, tb, k⟩ := h
    obtain ⟨⟨dx, a2, a3, a4, ha, h2, h3, h4⟩, l2, l3, l4⟩ := tb
    refine ⟨_, pss_one (ps_ret (pe_op op_catE (pe_fld (pv 0) rfl) (pe_fld (pv 0) rfl))), ?_⟩
    refine ⟨_, rfl, a, C, dx, _, _, rfl, ha, U.cl, U.n2, rfl, _, rfl, a, C, dx, _, _, rfl, ha, U.cl, U.n3, rfl, a2, a3, _, _, rfl, rfl, h2, h3, ?_, fun q H' s' hq _ => k q H' s' (by rw [List.map_append]; exact hq)⟩
    have : sizeLine > 4 := by decide
    rw [List.length_map, List.length_map]
    omega
theorem scClash : FnScope ["self", "one", "other", "places", "place", "column"] ["self", "one", "other"] (defScope sClash) := ⟨rfl, rfl, rfl, by decide +kernel, rfl, by decide +kernel, by decide +kernel⟩
theorem ok_clash {f : Addr} {fd : FuncData} (F : Fun K "clash" "Table.clash" sClash f fd) (T : TxtP K mg fNm fNms) (U : TxtT K mg C CI fCols fKey) (gE : mg "enumerate" = none)
    (pp : PropOf K C "columns" pC gC) (GG : FnOk P w K mg base CX0 1 gC fdG ["self"] (spColumns K C)) (bG : Binds K fdG ["self"] []) : FnOk P w K mg base CX0 3 f fd ["self", "one", "other"] (spClash K C) := by
  refine F.ok scClash (fun vs H Q E h => ?_) (fun cdv A outer s H vs Q E hr h => ?_)
  · obtain ⟨a, p, q, nm, ss, zs, ks, xs, ys, rfl, _⟩ := h
    rfl
  · obtain ⟨a, p, q, nm, ss, zs, ks, xs, ys, rfl, tb, hp, hq, lx, ly, sc, k⟩ := h
    have tb0 := tb
    obtain ⟨⟨dx, a2, a3, a4, ha, h2, h3, h4⟩, l2, l3, l4⟩ := tb
    have h2 := h2.sq
    have h3 := h3.sq
    have h4 := h4.sq
    refine ⟨_, pss_cons (ps_setLc (i := 3) (own := [("place", 4), ("column", 5)]) (g := gTup K 2 (gCons (gName 4) (gCons (gName 5) gNil))) (tt := tTest (tOp (rIn K false) (tVar 5) (tFld K (tVar 0) "key"))) (te := tVar 4) rfl scClash.nd rfl rfl (sw_true rfl rfl rfl (by decide +kernel))
          (pi_enumT rfl gE (pa_cons (pe_prop (pv 0) U.cl pp GG hr bG .nil pass0 rfl) pa_nil))
          (blkOk_by (N := ["self", "one", "other", "places", "place", "column"]) (sc := defScope sClash) (by decide +kernel))
          (fun _ _ _ _ _ => by exact (pg_tup rfl (by exact (pgs_cons (pg_name (i := 4) scClash.nd rfl (Or.inl rfl)) (by exact (pgs_cons (pg_name (i := 5) scClash.nd rfl (Or.inl rfl)) pgs_nil))))))
          (fun _ _ _ _ _ => by exact (pts_one (pt_cmpR op_in_seq (pv 5) (pe_fld (pv 0) rfl) (by rfl))))
          (fun _ _ _ _ _ => by exact (pv 4)))
      (pss_one (ps_ret (pe_and (pe_cmpR op_gt (pe_callB call_len_seq (by rfl) T.len (by decide +kernel) (pa_cons (pv 3) pa_nil)) pe_int (nomark _))
        (pe_one (pe_callB (cr_all rfl) (by rfl) T.all (by decide +kernel) (pa_cons (pe_lc (own := [("place", 4)]) (g := gName 4) (tt := tYes) (te := tOp rEq (tOp (rIxT K) (tVar 1) (tVar 4)) (tOp (rIxT K) (tVar 2) (tVar 4))) rfl scClash.nd (pi_list (pv 3))
          (blkOk_by (N := ["self", "one", "other", "places", "place", "column"]) (sc := defScope sClash) (by decide +kernel)) (fun _ _ _ _ _ => pg_name (i := 4) scClash.nd rfl (Or.inl rfl)) (fun _ _ _ _ _ => pts_nil)
          (fun _ _ _ _ _ => by exact (pe_cmpR op_eq (pe_ix ix_tup (pv 1) (pv 4) (fun _ _ => rfl)) (pe_ix ix_tup (pv 2) (pv 4) (fun _ _ => rfl)) (nomark _)))) pa_nil)))))), ?_⟩
    have few : (ss ++ zs).length ≤ 4 := by
      rw [List.length_append]
      omega
    have big : sizeLine > 8 := by decide
    refine ⟨_, rfl, a, dx, _, rfl, ha, a, nm, ss, zs, ks, rfl, tb0, fun q1 H1 s1 hq1' => ⟨q1, (ss ++ zs).map V.str, rfl, hq1'.sq, fun D hD => ?_⟩⟩
    have hq1 := hq1'.sq
    refine lc_it (walk_enumT (K := K) (a := q1) (xs := (ss ++ zs).map V.str)) (fun i H' => Same H1 H' ∧ H' D = some (.lst ((places (ss ++ zs) ks i).map fun j => V.int (j : Nat)))) ⟨same_upd hD, upd_same⟩ (fun i H' _ z => sameT z.1 hq1) ?_ ?_
    · rintro i x H2 H3 hi ⟨s2, e2⟩ ⟨T1, x1, x2, rfl, hT, rfl, g1, g2⟩
      cases g1
      obtain ⟨z, ez, rfl⟩ := map_at g2
      have s3 : Same H2 (upd H2 T1 (.tup [.int (i : Nat), .str z])) := same_upd hT
      have s13 := (s1.trans s2).trans s3
      have zi : (ss ++ zs).getD i Str.empty = z := by
        rw [List.getD_eq_getElem?_getD, ez]
        rfl
      have ps := places_succ (ss ++ zs) ks i
      rw [zi] at ps
      refine ⟨T1, _, rfl, SqT.of upd_same, rfl, _, _, rfl, _, _, rfl, rfl, rfl, ?_⟩
      refine ⟨_, rfl, _, rfl, a, C, dx, _, _, rfl, s13 _ _ ha, U.cl, U.n4, rfl, a4, ks.map V.str, rfl, .inr (sameT s13 h4), rfl, flat_strs ks, _, rfl, ?_⟩
      show if inV (.str z) (ks.map V.str) = true then _ else _
      rw [inV_str]
      refine iteB (fun e => ?_) (fun e => ?_)
      · refine ⟨_, rfl, _, s3 _ _ e2, ?_, fun b o y => ?_, ?_⟩
        · rw [List.length_map]
          have := places_le (ss ++ zs) ks i
          rw [List.length_map] at hi
          omega
        · rw [upd_ne (ne_of_none y hD)]
          exact s3 _ _ (s2 b o y)
        · rw [upd_same, ps, if_pos e, List.map_append]
          rfl
      · refine ⟨s2.trans s3, ?_⟩
        rw [ps, if_neg (by rw [e]; decide)]
        exact s3 _ _ e2
    · rintro H2 ⟨s2, e2⟩
      rw [List.length_map] at e2
      have s12 := s1.trans s2
      generalize hp' : places (ss ++ zs) ks (ss ++ zs).length = pl at e2
      have lp : pl.length ≤ 4 := by
        have := places_le (ss ++ zs) ks (ss ++ zs).length
        rw [hp'] at this
        omega
      have cb : clashB (ss ++ zs) ks xs ys = (decide (0 < pl.length) && pl.all (sameAt xs ys)) := by
        unfold clashB
        rw [hp']
      rw [cb] at k
      refine ⟨_, rfl, D, _, rfl, .inl (SqL.of e2), _, _, rfl, rfl, _, rfl, ?_⟩
      rw [List.length_map]
      refine ite_ (fun c => ?_) (fun c => ?_)
      · rw [decide_eq_true (show 0 < pl.length by omega), Bool.true_and] at k
        refine ⟨_, rfl, D, rfl, ⟨_, SqL.of e2⟩, fun D2 hD2 => ?_⟩
        refine lc_list (K := K) (a := D) (xs := pl.map fun j => V.int (j : Nat)) (fun i H' => Same H2 H' ∧ H' D2 = some (.lst (((pl.take i).map (sameAt xs ys)).map V.bl))) ⟨same_upd hD2, upd_same⟩ (fun i H' _ z => SqL.of (z.1 _ _ e2)) ?_ ?_
        · rintro i y H3 hi ⟨s3, e3⟩
          rw [List.getElem?_map] at hi
          cases ej : pl[i]? with
          | none =>
            rw [ej] at hi
            cases hi
          | some j =>
            rw [ej] at hi
            cases hi
            have jl : j < (ss ++ zs).length := places_mem (cols := ss ++ zs) (ks := ks) (by rw [hp']; exact ej)
            rw [List.length_append] at jl
            have jx : xs[j]? = some (xs.getD j .non) := by
              rw [List.getD_eq_getElem?_getD, List.getElem?_eq_getElem (by omega)]
              rfl
            have jy : ys[j]? = some (ys.getD j .non) := by
              rw [List.getD_eq_getElem?_getD, List.getElem?_eq_getElem (by omega)]
              rfl
            refine ⟨rfl, ?_⟩
            dsimp only [tYes]
            rw [if_pos rfl]
            refine ⟨_, rfl, _, rfl, p, xs, _, _, rfl, rfl, sameT (s12.trans s3) hp, atI_nat jx, _, rfl, _, rfl, q, ys, _, _, rfl, rfl, sameT (s12.trans s3) hq, atI_nat jy, sc j _ _ jx jy, ?_⟩
            refine ⟨_, e3, ?_, fun b o y => ?_, ?_⟩
            · rw [List.length_map, List.length_map, List.length_take]
              omega
            · rw [upd_ne (ne_of_none y hD2)]
              exact s3 b o y
            · rw [upd_same, List.take_add_one, ej]
              simp [sameAt]
        · rintro H3 ⟨s3, e3⟩
          refine ⟨D2, _, rfl, SqL.of e3, ?_⟩
          rw [List.length_map, List.take_length, List.all_map]
          exact k H3 (s12.trans s3)
      · rw [decide_eq_false (show ¬ 0 < pl.length by omega), Bool.false_and] at k
        exact k H2 s12
end
end Vm
namespace Vm
open PySem L2
/-- one of the items, or of the signs, by a draw -/
def spPick (K : PySem.W.Frag) : Sp := fun vs H Q _ => ∃ (s l : Addr) (y : V) (ms : List Int) (z b : Int), vs = [.ref s, y] ∧ Src H s l ms z b ∧ 0 ≤ b ∧ b < 1000000 ∧
  ((∃ (p : Addr) (xs : List V), y = .ref p ∧ (∀ H', But s l H H' → SqL K H' p xs) ∧ 0 < xs.length ∧ xs.length ≤ 1000 ∧ ∀ (H' : Hp) (ms' : List Int) (v : V), But s l H H' → Src H' s l ms' z (b + 1) → v ∈ xs → Q v H') ∨
    ∃ t : Str, y = .str t ∧ 0 < t.length ∧ t.length ≤ 1000 ∧ ∀ (H' : Hp) (ms' : List Int) (c : Nat), But s l H H' → Src H' s l ms' z (b + 1) → c ∈ t.cps.toList → Q (.str ⟨#[c]⟩) H')
structure TxtL (K : PySem.W.Frag) (mg : Str → Option Value) (fD fP : Addr) : Prop extends TxtA K mg where
  gD : mg "_law_draw" = some (.ref fD)
  kD : PySem.W.keepIn K (.ref fD) = true
  gP : mg "_law_pick" = some (.ref fP)
  kP : PySem.W.keepIn K (.ref fP) = true
section
variable {P : Program} {w : World} {K : PySem.W.Frag} {mg : Str → Option Value} {base : Heap} {fD fP : Addr}
theorem scPick : FnScope ["_law_source_here", "_law_items"] ["_law_source_here", "_law_items"] (defScope sPick) := ⟨rfl, rfl, rfl, by decide +kernel, rfl, by decide +kernel, by decide +kernel⟩
theorem ok_pick {f : Addr} {fd fdD : FuncData} (F : Fun K "_law_pick" "_law_pick" sPick f fd) (T : TxtL K mg fD fP) (GD : FnOk P w K mg base CX0 1 fD fdD ["_law_source_here", "_law_many"] spDraw) (bD : Binds K fdD ["_law_source_here", "_law_many"] []) :
    FnOk P w K mg base CX0 2 f fd ["_law_source_here", "_law_items"] (spPick K) := by
  refine F.ok scPick (fun vs H Q E h => ?_) (fun cdv A outer s H vs Q E hr h => ?_)
  · obtain ⟨s, l, y, ms, z, b, rfl, _⟩ := h
    rfl
  · obtain ⟨a, l, y, ms, z, b, rfl, hs, b0, b1, h⟩ := h
    refine ⟨_, pss_one (ps_ret (pe_ix ix_seq (pv 1) (pe_call GD hr rfl T.gD T.kD bD .nil pass0 (pa_cons (pv 0) (pa_cons (pe_callB call_len (by rfl) T.len (by decide +kernel) (pa_cons (pv 1) pa_nil)) pa_nil))) (fun _ _ => rfl))), ?_⟩
    rcases h with ⟨p, xs, rfl, st, x0, x1, k⟩ | ⟨t, rfl, x0, x1, k⟩
    · refine ⟨_, rfl, _, rfl, _, rfl, _, xs.length, rfl, .inl ⟨xs, st H (fun _ _ _ _ e => e), rfl⟩, a, l, ms, z, b, xs.length, rfl, hs, by omega, by omega, b0, b1, fun H' ms' r k1 hs1 r0 r1 => ?_⟩
      obtain ⟨j, rfl⟩ : ∃ j : Nat, r = (j : Int) := ⟨r.toNat, by omega⟩
      have hj : j < xs.length := by omega
      exact .inl ⟨p, xs, j, xs[j], rfl, rfl, st H' k1, atI_nat (List.getElem?_eq_getElem hj), k H' ms' _ k1 hs1 (List.getElem_mem hj)⟩
    · have big : sizeLine > 1000 := by decide
      refine ⟨_, rfl, _, rfl, _, rfl, _, t.length, rfl, ⟨by omega, rfl⟩, a, l, ms, z, b, t.length, rfl, hs, by omega, by omega, b0, b1, fun H' ms' r k1 hs1 r0 r1 => ?_⟩
      obtain ⟨j, rfl⟩ : ∃ j : Nat, r = (j : Int) := ⟨r.toNat, by omega⟩
      have hl : t.length = t.cps.toList.length := by
        show t.cps.size = _
        simp
      have hj : j < t.cps.toList.length := by omega
      exact .inr (.inr ⟨t, j, t.cps.toList[j], rfl, rfl, by omega, atI_nat (List.getElem?_eq_getElem hj), k H' ms' _ k1 hs1 (List.getElem_mem hj)⟩)
end
end Vm
namespace Vm
open PySem L2
/-- a tuple stays while the source goes on -/
theorem But.sqT {K : PySem.W.Frag} {s l a : Addr} {H H' : Hp} {ms : List Int} {z b : Int} {xs : List V} (k : But s l H H') (hs : Src H s l ms z b) (h : SqT K H a xs) : SqT K H' a xs := by
  have ne : ∀ {o : HO}, H a = some o → (∀ ys, o ≠ .lst ys) → a ≠ s ∧ a ≠ l := fun {o} e n => by
    refine ⟨fun q => ?_, fun q => ?_⟩
    · rw [q, hs.hs] at e
      exact n _ (Option.some.inj e).symm
    · rw [q, hs.hl] at e
      exact n _ (Option.some.inj e).symm
  rcases h with (h | ⟨o, h⟩) | h
  · obtain ⟨n1, n2⟩ := ne h fun ys q => nomatch q
    exact .inl (.inl (k _ _ n1 n2 h))
  · obtain ⟨n1, n2⟩ := ne h fun ys q => nomatch q
    exact .inl (.inr ⟨o, k _ _ n1 n2 h⟩)
  · exact .inr h
theorem Src.free {s l : Addr} {H : Hp} {ms : List Int} {z b : Int} (h : Src H s l ms z b) {c : Addr} (e : H c = none) : c ≠ s ∧ c ≠ l := by
  refine ⟨fun q => ?_, fun q => ?_⟩
  · rw [q, h.hs] at e
    cases e
  · rw [q, h.hl] at e
    cases e
theorem But.back {s l : Addr} {H H' : Hp} {ms : List Int} {z b : Int} (k : But s l H H') (h : Src H' s l ms z b) {c : Addr} (e : H' c = none) : H c = none := by
  obtain ⟨n1, n2⟩ := h.free e
  cases q : H c with
  | none => rfl
  | some o =>
    rw [k c o n1 n2 q] at e
    cases e
end Vm
/-! data with the addresses out of sight: they keep a wish P -/
namespace Vm
open PySem L2
def DP (K : PySem.W.Frag) (H : Hp) (P : Addr → Prop) (v : V) (t : Tr) (n : Nat) : Prop := ∃ bs, Dt K H v t n bs ∧ ∀ b ∈ bs, P b
def DPs (K : PySem.W.Frag) (H : Hp) (P : Addr → Prop) (vs : List V) (ts : List Tr) (n : Nat) : Prop := ∃ bs, DtAll K H vs ts n bs ∧ ∀ b ∈ bs, P b
section
variable {K : PySem.W.Frag} {H H' : Hp} {P : Addr → Prop}
theorem DP.lvl {v : V} {t : Tr} {n m : Nat} (d : DP K H P v t n) (h : n ≤ m) : DP K H P v t m := let ⟨bs, d, p⟩ := d; ⟨bs, d.lvl h, p⟩
theorem DPs.lvl {v : List V} {t : List Tr} {n m : Nat} (d : DPs K H P v t n) (h : n ≤ m) : DPs K H P v t m := let ⟨bs, d, p⟩ := d; ⟨bs, d.lvl h, p⟩
theorem DP.keep {v : V} {t : Tr} {n : Nat} (d : DP K H P v t n) (k : ∀ b o, P b → H b = some o → H' b = some o) : DP K H' P v t n := let ⟨bs, d, p⟩ := d; ⟨bs, d.keep fun b hb o e => k b o (p b hb) e, p⟩
theorem DPs.keep {v : List V} {t : List Tr} {n : Nat} (d : DPs K H P v t n) (k : ∀ b o, P b → H b = some o → H' b = some o) : DPs K H' P v t n := let ⟨bs, d, p⟩ := d; ⟨bs, d.keep fun b hb o e => k b o (p b hb) e, p⟩
theorem DP.same {v : V} {t : Tr} {n : Nat} (d : DP K H P v t n) (k : Same H H') : DP K H' P v t n := d.keep fun b o _ e => k b o e
theorem DPs.same {v : List V} {t : List Tr} {n : Nat} (d : DPs K H P v t n) (k : Same H H') : DPs K H' P v t n := d.keep fun b o _ e => k b o e
theorem DP.imp {Q : Addr → Prop} {v : V} {t : Tr} {n : Nat} (d : DP K H P v t n) (k : ∀ b, P b → Q b) : DP K H Q v t n := let ⟨bs, d, p⟩ := d; ⟨bs, d, fun b hb => k b (p b hb)⟩
theorem DPs.imp {Q : Addr → Prop} {v : List V} {t : List Tr} {n : Nat} (d : DPs K H P v t n) (k : ∀ b, P b → Q b) : DPs K H Q v t n := let ⟨bs, d, p⟩ := d; ⟨bs, d, fun b hb => k b (p b hb)⟩
theorem DP.non {n : Nat} : DP K H P .non .non n := ⟨[], .non, fun _ h => nomatch h⟩
theorem DP.bl {n : Nat} (b : Bool) : DP K H P (.bl b) (.bl b) n := ⟨[], .bl b, fun _ h => nomatch h⟩
theorem DP.int {n : Nat} {i : Int} (h : i.natAbs.log2 < 1920) : DP K H P (.int i) (.int i) n := ⟨[], .int h, fun _ h => nomatch h⟩
theorem DP.str {n : Nat} {x : Str} (h : (reprText x).length ≤ sizeLine) (hz : x.length ≤ sizeLine) : DP K H P (.str x) (.str x) n := ⟨[], .str h hz, fun _ h => nomatch h⟩
theorem DPs.nil {n : Nat} : DPs K H P [] [] n := ⟨[], .nil, fun _ h => nomatch h⟩
theorem DPs.cons {v : V} {t : Tr} {vs : List V} {ts : List Tr} {n : Nat} (d : DP K H P v t n) (e : DPs K H P vs ts n) : DPs K H P (v :: vs) (t :: ts) n :=
  let ⟨bs, d, p⟩ := d
  let ⟨cs, e, q⟩ := e
  ⟨bs ++ cs, .cons d e, fun b hb => (List.mem_append.mp hb).elim (p b) (q b)⟩
theorem DPs.append {vs us : List V} {ts ws : List Tr} {n : Nat} (d : DPs K H P vs ts n) (e : DPs K H P us ws n) : DPs K H P (vs ++ us) (ts ++ ws) n :=
  let ⟨bs, d, p⟩ := d
  let ⟨cs, e, q⟩ := e
  ⟨bs ++ cs, d.append e, fun b hb => (List.mem_append.mp hb).elim (p b) (q b)⟩
theorem DPs.length {vs : List V} {ts : List Tr} {n : Nat} (d : DPs K H P vs ts n) : vs.length = ts.length := let ⟨_, d, _⟩ := d; d.length
theorem DPs.take {vs : List V} {ts : List Tr} {n : Nat} (d : DPs K H P vs ts n) (i : Nat) : DPs K H P (vs.take i) (ts.take i) n :=
  let ⟨bs, d, p⟩ := d
  let ⟨⟨cs, d', s⟩, _⟩ := d.part i
  ⟨cs, d', fun b hb => p b (s b hb)⟩
theorem DPs.drop {vs : List V} {ts : List Tr} {n : Nat} (d : DPs K H P vs ts n) (i : Nat) : DPs K H P (vs.drop i) (ts.drop i) n :=
  let ⟨bs, d, p⟩ := d
  let ⟨_, ⟨cs, d', s⟩⟩ := d.part i
  ⟨cs, d', fun b hb => p b (s b hb)⟩
theorem DPs.get {vs : List V} {ts : List Tr} {n : Nat} (d : DPs K H P vs ts n) {i : Nat} {v : V} (e : vs[i]? = some v) : ∃ t, ts[i]? = some t ∧ DP K H P v t n :=
  let ⟨bs, d, p⟩ := d
  let ⟨t, cs, e1, d1, s⟩ := d.get e
  ⟨t, e1, cs, d1, fun b hb => p b (s b hb)⟩
theorem DPs.reverse {n : Nat} : ∀ {vs : List V} {ts : List Tr}, DPs K H P vs ts n → DPs K H P vs.reverse ts.reverse n
  | _, _, ⟨_, .nil, _⟩ => .nil
  | v :: vs, t :: ts, ⟨_, .cons (bs := bs) (cs := cs) h r, p⟩ => by
    rw [List.reverse_cons, List.reverse_cons]
    exact (DPs.reverse ⟨cs, r, fun b hb => p b (List.mem_append_right _ hb)⟩).append (.cons ⟨bs, h, fun b hb => p b (List.mem_append_left _ hb)⟩ .nil)
theorem DP.mem {n : Nat} : ∀ {vs : List V} {ts : List Tr}, DPs K H P vs ts n → ∀ {v : V}, v ∈ vs → ∃ t ∈ ts, DP K H P v t n := fun {vs ts} d {v} h => by
  obtain ⟨i, hi, e⟩ := List.mem_iff_getElem.mp h
  obtain ⟨t, e2, d2⟩ := d.get (show vs[i]? = some v by rw [List.getElem?_eq_getElem hi, e])
  exact ⟨t, List.mem_of_getElem? e2, d2⟩
/-- a new tuple, a new list of data -/
theorem DPs.tup {vs : List V} {ts : List Tr} {n : Nat} {p : Addr} {o : Obj} (d : DPs K H P vs ts n) (hp : H p = none) (hP : P p) (hd : o.dict = none) : DP K (upd H p (.frz o (.tup vs))) P (.ref p) (.tup ts) (n + 1) :=
  let ⟨bs, d, q⟩ := d
  ⟨p :: bs, .tup upd_same hd (d.keep fun b _ o e => by
    rw [upd_ne (ne_of_none e hp)]
    exact e) (fun hm => by
      obtain ⟨o, e⟩ := d.there p hm
      rw [hp] at e
      cases e), fun b hb => (List.mem_cons.mp hb).elim (fun e => e ▸ hP) (q b)⟩
theorem DPs.lst {vs : List V} {ts : List Tr} {n : Nat} {p : Addr} (d : DPs K H P vs ts n) (hp : H p = none) (hP : P p) : DP K (upd H p (.lst vs)) P (.ref p) (.lst ts) (n + 1) :=
  let ⟨bs, d, q⟩ := d
  ⟨p :: bs, .lst upd_same (d.keep fun b _ o e => by
    rw [upd_ne (ne_of_none e hp)]
    exact e) (fun hm => by
      obtain ⟨o, e⟩ := d.there p hm
      rw [hp] at e
      cases e), fun b hb => (List.mem_cons.mp hb).elim (fun e => e ▸ hP) (q b)⟩
theorem DP.emptyDict {n : Nat} {p : Addr} (hP : P p) : DP K (upd H p (.dK [])) P (.ref p) (.dct [] []) (n + 1) :=
  ⟨[p], .dct (kvs := []) (bs := []) upd_same (fun _ h => nomatch h) .nil (fun h => nomatch h), fun b hb => List.mem_singleton.mp hb ▸ hP⟩
theorem DP.tupD {v : V} {t : Tr} {n : Nat} (d : DP K H P v t n) (h : isTup t = true) : ∃ (a : Addr) (xs : List V) (ts : List Tr) (m : Nat), v = .ref a ∧ t = .tup ts ∧ m < n ∧ TupE K H a xs ∧ DPs K H P xs ts m :=
  let ⟨bs, d, p⟩ := d
  let ⟨a, xs, ts, m, cs, e1, e2, l, te, r, s⟩ := d.tupD h
  ⟨a, xs, ts, m, e1, e2, l, te, cs, r, fun b hb => p b (s b hb)⟩
end
/-! sizes -/
mutual
/-- more than the text's length -/
def Tr.w : Tr → Nat
  | .tup xs => 3 + ws xs
  | .lst xs => 3 + ws xs
  | .non => 4
  | .bl _ => 5
  | .int i => (toString i : Str).length
  | .str x => (reprText x).length
  | .dct ks xs => (dictText (List.zipWith entryText (ks.map keyText) (texts xs))).length
def ws : List Tr → Nat
  | [] => 0
  | x :: r => (x.w + 2) + ws r
end
theorem ws_append : ∀ a b : List Tr, ws (a ++ b) = ws a + ws b
  | [], b => by
    show ws b = 0 + ws b
    omega
  | x :: r, b => by
    have h := ws_append r b
    show (x.w + 2) + ws (r ++ b) = (x.w + 2) + ws r + ws b
    omega
theorem ws_split (a : List Tr) (i : Nat) : ws (a.take i) + ws (a.drop i) = ws a := by
  rw [← ws_append, List.take_append_drop]
theorem ws_rev : ∀ a : List Tr, ws a.reverse = ws a
  | [] => rfl
  | x :: r => by
    have h := ws_rev r
    rw [List.reverse_cons, ws_append, h]
    show ws r + ((x.w + 2) + 0) = (x.w + 2) + ws r
    omega
theorem tupText_le (ts : List Str) : (tupleText ts).length ≤ 3 + ((ts.map (·.length)).sum + 2 * ts.length) := by
  have e2 := StrLaws.join_length_le ", " ts
  have e4 : (("(" : String) : Str).length = 1 := by decide +kernel
  have e5 : (((if (ts.length == 1) = true then ",)" else ")" : String)) : Str).length ≤ 2 := by
    split <;> decide +kernel
  have e6 : ((", " : String) : Str).length = 2 := by decide +kernel
  unfold tupleText
  rw [strLen_append, strLen_append]
  rw [e6] at e2
  omega
theorem lstText_le (ts : List Str) : (listText ts).length ≤ 3 + ((ts.map (·.length)).sum + 2 * ts.length) := by
  have e2 := textFrom_len_le ts 0 "["
  have e4 : (("[" : String) : Str).length = 1 := by decide +kernel
  have e5 : ((("]" : String) : Str)).length = 1 := by decide +kernel
  unfold listText
  rw [strLen_append]
  omega
mutual
theorem Tr.text_le : ∀ t : Tr, t.text.length ≤ t.w
  | .non => by
    show (("None" : String) : Str).length ≤ 4
    decide +kernel
  | .bl true => by
    show (("True" : String) : Str).length ≤ 5
    decide +kernel
  | .bl false => by
    show (("False" : String) : Str).length ≤ 5
    decide +kernel
  | .int i => Nat.le_refl _
  | .str x => Nat.le_refl _
  | .lst xs => by
    have h := texts_le xs
    have e := lstText_le (texts xs)
    show (listText (texts xs)).length ≤ 3 + ws xs
    omega
  | .tup xs => by
    have h := texts_le xs
    have e := tupText_le (texts xs)
    show (tupleText (texts xs)).length ≤ 3 + ws xs
    omega
  | .dct ks xs => Nat.le_refl _
theorem texts_le : ∀ ts : List Tr, ((texts ts).map (·.length)).sum + 2 * (texts ts).length ≤ ws ts
  | [] => Nat.zero_le _
  | x :: r => by
    have h1 := x.text_le
    have h2 := texts_le r
    show ((x.text :: texts r).map (·.length)).sum + 2 * (x.text :: texts r).length ≤ (x.w + 2) + ws r
    rw [List.map_cons, List.sum_cons, List.length_cons]
    omega
end
/-- away from the source of draws -/
def Off (s l : Addr) (b : Addr) : Prop := b ≠ s ∧ b ≠ l
theorem DP.but {K : PySem.W.Frag} {H H' : Hp} {s l : Addr} {v : V} {t : Tr} {n : Nat} (d : DP K H (Off s l) v t n) (k : But s l H H') : DP K H' (Off s l) v t n := d.keep fun b o p e => k b o p.1 p.2 e
theorem DPs.but {K : PySem.W.Frag} {H H' : Hp} {s l : Addr} {v : List V} {t : List Tr} {n : Nat} (d : DPs K H (Off s l) v t n) (k : But s l H H') : DPs K H' (Off s l) v t n := d.keep fun b o p e => k b o p.1 p.2 e
theorem Src.off {s l : Addr} {H : Hp} {ms : List Int} {z b : Int} (h : Src H s l ms z b) : ∀ c, H c = none → Off s l c := fun c e => h.free e
end Vm
/-! rules over data: slices, sums, displays -/
namespace Vm
open PySem PySem.Spec PyProof.Rows L2
def cutL {α : Type} (xs : List α) (lo hi : Option Int) : List α := (xs.drop (HT.sIx xs.length 0 lo)).take (HT.sIx xs.length xs.length hi - HT.sIx xs.length 0 lo)
section
variable {X : Cx}
theorem _root_.L2.PE.wk {e : Expr} {t t' : TE} (h : PE X e t') (m : ∀ σ H Q, t σ H Q → t' σ H Q) : PE X e t := ⟨fun pins s σ H Q I hq => h.run pins s σ H Q I (m _ _ _ hq)⟩
theorem _root_.L2.PA.wk {e : List Expr} {t t' : TA} (h : PA X e t') (m : ∀ σ H Q, t σ H Q → t' σ H Q) : PA X e t := ⟨fun pos pins s σ H Q I hq => h.run pos pins s σ H Q I (m _ _ _ hq)⟩
/-- t[lo:hi] -/
def rSlD (K : PySem.W.Frag) : V → Option Int → Option Int → Hp → VK → Prop := fun x lo hi H Q => ∃ (P : Addr → Prop) (ts : List Tr) (n : Nat), DP K H P x (.tup ts) (n + 1) ∧ (∀ b, H b = none → P b) ∧
  ∀ v H', Same H H' → DP K H' P v (.tup (cutL ts lo hi)) (n + 1) → Q v H'
theorem sl_D : SlR X (rSlD X.K) := by
  intro pins s σ H x v vl vu lo hi sl Q I rx hs pl pu h
  obtain ⟨P, ts, n, d, free, k⟩ := h
  obtain ⟨a, xs, ts', m, rfl, et, lt, te, r⟩ := d.tupD rfl
  cases et
  have len := r.length
  refine sl_tupF pins s σ H _ v vl vu lo hi sl Q I rx hs pl pu ⟨a, xs, rfl, te.sq, fun hw => ?_, fun p o hp hd => ?_⟩
  · refine k _ H (Same.refl H) ?_
    have e : cutL ts lo hi = ts := by
      unfold cutL
      rw [← len, hw.1, hw.2, List.drop_zero, Nat.sub_zero, len, List.take_length]
    rw [e]
    exact d
  · refine k _ _ (same_upd hp) ?_
    have e : DPs X.K H P (cutV xs lo hi) (cutL ts lo hi) m := by
      unfold cutV cutL
      rw [← len]
      exact (r.drop _).take _
    exact (e.tup hp (free p hp) hd).lvl (by omega)
/-- t + u -/
def rCatD (K : PySem.W.Frag) : R2 := fun x y H Q => ∃ (P : Addr → Prop) (ts us : List Tr) (n : Nat), DP K H P x (.tup ts) (n + 1) ∧ DP K H P y (.tup us) (n + 1) ∧ ts.length + us.length ≤ sizeLine ∧ (∀ b, H b = none → P b) ∧
  ∀ v H', Same H H' → DP K H' P v (.tup (ts ++ us)) (n + 1) → Q v H'
theorem op_catD : OpR X (binaryOp .Add) (rCatD X.K) := by
  intro pins s σ H x y v u Q I rx ry h
  obtain ⟨P, ts, us, n, d1, d2, hz, free, k⟩ := h
  obtain ⟨a, xs, ts', m, rfl, et, lt, te, r⟩ := d1.tupD rfl
  cases et
  obtain ⟨b, ys, us', m2, rfl, et, lt2, te2, r2⟩ := d2.tupD rfl
  cases et
  have l1 := r.length
  have l2 := r2.length
  refine op_catF pins s σ H _ _ v u Q I rx ry ⟨a, b, xs, ys, rfl, rfl, te.sq, te2.sq, by omega, fun e => ?_, fun _ e => ?_, fun _ _ p o hp hd => ?_⟩
  · subst e
    have e : ts = [] := List.length_eq_zero_iff.mp l1.symm
    subst e
    exact k _ H (Same.refl H) d2
  · subst e
    have e : us = [] := List.length_eq_zero_iff.mp l2.symm
    subst e
    refine k _ H (Same.refl H) ?_
    rw [List.append_nil]
    exact d1
  · refine k _ _ (same_upd hp) ?_
    exact (((r.lvl (Nat.le_of_lt_succ lt)).append (r2.lvl (Nat.le_of_lt_succ lt2))).tup hp (free p hp) hd)
/-- t[::-1] -/
def tRevD (K : PySem.W.Frag) (te : TE) : TE := fun σ H Q => te σ H fun x H1 => ∃ (P : Addr → Prop) (ts : List Tr) (n : Nat), DP K H1 P x (.tup ts) (n + 1) ∧ (∀ b, H1 b = none → P b) ∧ ∀ v H', Same H1 H' → DP K H' P v (.tup ts.reverse) (n + 1) → Q v H'
theorem pe_revD {e : Expr} {te : TE} {k : Nat} {p1 p2 p3 pos : Pos} (he : PE X e te) : PE X (.Subscript e (.Slice none none (some (.UnaryOp .USub (.Constant (.int 1) k p1) p2)) p3) pos) (tRevD X.K te) := by
  refine ⟨fun pins s σ H Q I h => ?_⟩
  have he2 : PE X e (fun σ H Q => ∃ R : VK, te σ H R ∧ ∀ x H1, R x H1 → Q x H1) := ⟨fun pins s σ H Q I ⟨R, h1, h2⟩ => wpAny_mono (he.run pins s σ H R I h1) (fun u s' ⟨x, H', I', r', q⟩ => ⟨x, H', I', r', h2 x H' q⟩) fun _ _ e => e⟩
  refine (pe_revT (k := k) (p1 := p1) (p2 := p2) (p3 := p3) (pos := pos) he2).run pins s σ H Q I ⟨_, h, fun x H1 q => ?_⟩
  obtain ⟨P, ts, n, d, free, k⟩ := q
  obtain ⟨a, xs, ts', m, rfl, et, lt, tE, r⟩ := d.tupD rfl
  cases et
  exact ⟨a, xs, rfl, tE.sq, fun p o hp hd => k _ _ (same_upd hp) ((r.reverse.tup hp (free p hp) hd).lvl (by omega))⟩
/-- list(t) -/
theorem call_listD : CallR X (.type "list") (fun xs H Q => ∃ (P : Addr → Prop) (v : V) (ts : List Tr) (n : Nat), xs = [v] ∧ DP X.K H P v (.tup ts) (n + 1) ∧ (∀ b, H b = none → P b) ∧ ∀ v' H', Same H H' → DP X.K H' P v' (.lst ts) (n + 1) → Q v' H') := by
  intro pins s σ H xs us Q I r h
  obtain ⟨P, v, ts, n, rfl, d, free, k⟩ := h
  obtain ⟨a, xs, ts', m, rfl, et, lt, te, r2⟩ := d.tupD rfl
  cases et
  exact call_list_of pins s σ H _ us Q I r ⟨a, xs, rfl, .inr te.sq, fun p hp => k _ _ (same_upd hp) ((r2.lst hp (free p hp)).lvl (by omega))⟩
end
/-! written data: all that it lays is new -/
abbrev NewIn (H : Hp) : Addr → Prop := fun b => H b = none
def tDt (K : PySem.W.Frag) (t : Tr) (n : Nat) : TE := fun σ H Q => ∀ v H', Same H H' → DP K H' (NewIn H) v t n → Q v H'
def tDs (K : PySem.W.Frag) (ts : List Tr) (n : Nat) : TA := fun σ H Q => ∀ vs H', Same H H' → DPs K H' (NewIn H) vs ts n → Q vs H'
section
variable {X : Cx}
theorem pd_nil {n : Nat} : PA X [] (tDs X.K [] n) := pa_nil.wk fun σ H Q h => h [] H (Same.refl H) .nil
theorem pd_cons {e : Expr} {es : List Expr} {t : Tr} {ts : List Tr} {n : Nat} (ha : PE X e (tDt X.K t n)) (hr : PA X es (tDs X.K ts n)) (hs : starEach (e :: es) X.env = (false, eval e X.env) :: starEach es X.env := by rfl) : PA X (e :: es) (tDs X.K (t :: ts) n) :=
  (pa_cons ha hr hs).wk fun σ H Q h v H1 s1 d vs H2 s2 ds => h _ _ (s1.trans s2) (.cons (d.same s2) (ds.imp fun b e => s1.free e))
theorem pd_tup {es : List Expr} {ts : List Tr} {n : Nat} {pos : Pos} {x1} (h : PA X es (tDs X.K ts n)) (hz : ts.length ≤ 1000) : PE X (.Tuple es x1 pos) (tDt X.K (.tup ts) (n + 1)) :=
  (pe_tupF h).wk fun σ H Q k vs H1 s1 ds => ⟨by
    have : sizeLine > 1000 := by decide
    rw [ds.length]
    omega, fun p o hp hd => k _ _ (s1.trans (same_upd hp)) (ds.tup hp (s1.free hp) hd)⟩
theorem pd_lst {es : List Expr} {ts : List Tr} {n : Nat} {pos : Pos} (h : PA X es (tDs X.K ts n)) (hz : ts.length ≤ 1000) : PE X (.List es pos) (tDt X.K (.lst ts) (n + 1)) :=
  (pe_lst h).wk fun σ H Q k vs H1 s1 ds => ⟨by
    have : sizeLine > 1000 := by decide
    rw [ds.length]
    omega, fun p hp => k _ _ (s1.trans (same_upd hp)) (ds.lst hp (s1.free hp))⟩
theorem pd_dict {n : Nat} {pos : Pos} : PE X (.Dict [] [] pos) (tDt X.K (.dct [] []) (n + 1)) :=
  pe_dnewK.wk fun σ H Q k p hp => k _ _ (same_upd hp) (.emptyDict hp)
theorem pd_of {e : Expr} {v : V} {t : Tr} {n : Nat} (h : PE X e (tC v)) (d : ∀ H, DP X.K H (NewIn H) v t n) : PE X e (tDt X.K t n) := h.wk fun σ H Q k => k _ H (Same.refl H) (d H)
end
/-! t.index(x), of a tuple that was made here -/
section
variable {X : Cx} {o e : Expr} {es : List Expr} {to : TE} {t : TA} {apos cpos : Pos} {id : String} {r : V → List V → Hp → VK → Prop} {name : Str}
def tBMF (r : V → List V → Hp → VK → Prop) (to : TE) (t : TA) : TE := fun σ H Q => to σ H fun x H1 => (∃ (a : Addr) (ob : Obj) (xs : List V), x = .ref a ∧ H1 a = some (.frz ob (.tup xs)) ∧ ob.dict = none) ∧ t σ H1 fun xs H2 => r x xs H2 Q
theorem pe_bmF (pa : PlainAttrs "tuple") (slot : Slot "tuple" name id) (hty : typeOf (.builtin id) = pure (.type "method_descriptor")) (hm : MtR X id r) (ho : PE X o to) (ha : PA X (e :: es) t)
    (hbase : attributeBase o name X.env (eval o X.env) = eval o X.env := by rfl)
    (hfew : ((backTo cpos (starEach (e :: es) X.env)).all (fun x => !x.1) && (backToKw cpos (keywordEach [] X.env)).all (fun x => x.1.isSome)
      && decide ((e :: es).length + ([] : List Keyword).length + (if ([] : List Keyword).isEmpty then 0 else 1) < 30)) = true := by rfl)
    (hline : (apos.endLine == cpos.line) = true := by rfl) (hs : starEach (e :: es) X.env = (false, eval e X.env) :: starEach es X.env := by rfl) (hplain : (backTo cpos (starEach es X.env)).any (·.1) = false := by rfl) :
    PE X (.Call (.Attribute o name apos) (e :: es) [] cpos) (tBMF r to t) := by
  refine ⟨fun pins s σ H Q I h => ?_⟩
  refine wpAny_Call_method_late hbase hfew hline rfl (thn (ho.run pins s σ H _ I h) fun v s1 ⟨x, H1, I1, r1, ⟨a, ob, xs, ex, ha1, hd⟩, q1⟩ => ?_)
  subst ex
  cases r1
  obtain ⟨h1, _, its, _, o2, h2, hc, _⟩ := I1.hok _ _ ha1
  have e2 : o2 = ob := Option.some.inj (h2.symm.trans h1)
  subst e2
  refine ⟨"tuple", id, pa, slot, hty, ⟨_, h1, hc⟩, fun a' e' => ?_, ?_⟩
  · cases e'
    exact ⟨_, h1, hd⟩
  have hA := ha.run cpos pins s1 σ H1 _ I1 q1
  rw [hs] at hA ⊢
  refine Calls.callWith_builtin (by show (false || (backTo cpos (starEach es X.env)).any (·.1)) = false; rw [hplain] <;> rfl) (Calls.evalArgs_plain ?_)
  exact thn hA fun us s2 ⟨vs, H2, I2, r2, q2⟩ => hm pins s2 σ H2 (.ref a) vs (.ref a) us Q I2 rfl r2 q2
end
end Vm
namespace Vm
open PySem L2
theorem farOk {i : Int} (h : i.natAbs < 10 ^ 40) : i.natAbs.log2 < 1920 ∧ (Str.ofString (toString i)).length ≤ 100 := by
  refine ⟨?_, ?_⟩
  · by_cases h0 : i.natAbs = 0
    · rw [h0]
      decide
    · exact (Nat.log2_lt h0).mpr (Nat.lt_of_lt_of_le h (by decide +kernel))
  · rw [ofString_length]
    have e := int_text_length_le10 (k := 40) (by decide) h
    omega
/-- a tuple of texts that was made here -/
def TupS (H : Hp) (c : Addr) (ss : List Str) : Prop := ∃ ob : Obj, H c = some (.frz ob (.tup (ss.map V.str))) ∧ ob.dict = none
theorem TupS.same {H H' : Hp} {c : Addr} {ss : List Str} (k : Same H H') (h : TupS H c ss) : TupS H' c ss := let ⟨o, h, d⟩ := h; ⟨o, k _ _ h, d⟩
theorem TupS.sq {K : PySem.W.Frag} {H : Hp} {c : Addr} {ss : List Str} (h : TupS H c ss) : SqT K H c (ss.map V.str) := let ⟨o, h, _⟩ := h; .inl (.inr ⟨o, h⟩)
theorem idx_first {ss : List Str} {x : Str} (h : x ∈ ss) : ss[ss.idxOf x]? = some x ∧ ∀ m, m < ss.idxOf x → ss[m]? ≠ some x := by
  have lt := List.idxOf_lt_length_of_mem h
  refine ⟨by rw [List.getElem?_eq_getElem lt, List.getElem_idxOf lt], fun m hm e => ?_⟩
  have := List.not_of_lt_findIdx (p := (· == x)) (xs := ss) (i := m) hm
  rw [List.getElem?_eq_getElem (Nat.lt_trans hm lt)] at e
  have e2 := Option.some.inj e
  have e3 : (ss[m] == x) = true := beq_iff_eq.mpr e2
  rw [this] at e3
  cases e3
theorem TupE.ts {K : PySem.W.Frag} {H : Hp} {c : Addr} {ss : List Str} (h : TupE K H c (ss.map V.str)) (ne : 0 < ss.length) : TupS H c ss := by
  rcases h with ⟨e, _⟩ | h
  · have := congrArg List.length e
    rw [List.length_map] at this
    rw [this] at ne
    exact absurd ne (by decide)
  · exact h
/-! texts as plain data -/
theorem strOk_nm {x : Str} (h : nmS x = true) : PyData.strOk x = true := by
  unfold nmS at h
  rw [Bool.and_eq_true, Bool.and_eq_true, decide_eq_true_eq, decide_eq_true_eq, List.all_eq_true] at h
  obtain ⟨_, _, hl⟩ := h
  unfold PyData.strOk
  rw [← Array.all_toList, List.all_eq_true]
  intro c hc
  have z := hl c hc
  unfold lowB at z
  rw [Bool.and_eq_true, decide_eq_true_eq, decide_eq_true_eq] at z
  exact decide_eq_true (by omega)
theorem layStrs : ∀ {ss : List Str}, ss.all nmS = true → PyData.canLayAll0 (ss.map PyData.str) = true
  | [], _ => rfl
  | x :: r, h => by
    rw [List.all_cons, Bool.and_eq_true] at h
    have ih := layStrs h.2
    simp only [List.map_cons, PyData.canLayAll0, PyData.canLay0, ih, strOk_nm h.1, Bool.and_self]
theorem depthStrs : ∀ ss : List Str, PyData.depthAll (ss.map PyData.str) = 0
  | [] => rfl
  | x :: r => by
    have h := depthStrs r
    simp only [List.map_cons, PyData.depthAll, PyData.depth, h, Nat.max_self]
theorem shapedStrs {ss : List Str} (h : ss.all nmS = true) : SeqAt.shaped (.tuple (ss.map PyData.str)) = true := by
  unfold SeqAt.shaped
  simp only [PyData.canLay0, layStrs h, PyData.depth, depthStrs ss]
  rfl
theorem dpStrs (K : PySem.W.Frag) (H : Hp) : ∀ ss : List Str, DpAll K H (ss.map V.str) (ss.map PyData.str)
  | [] => .nil
  | x :: r => .cons (.str x) (dpStrs K H r)
theorem eqvStrs : ∀ ss zs : List Str, PyData.eqvAll (ss.map PyData.str) (zs.map PyData.str) = decide (ss = zs)
  | [], [] => rfl
  | [], z :: s => rfl
  | x :: r, [] => rfl
  | x :: r, z :: s => by
    have h := eqvStrs r s
    show (x == z && PyData.eqvAll (r.map PyData.str) (s.map PyData.str)) = _
    rw [h]
    by_cases q : x = z
    · subst q
      rw [beq_self_eq_true, Bool.true_and]
      by_cases q2 : r = s
      · rw [decide_eq_true q2, decide_eq_true (by rw [q2])]
      · rw [decide_eq_false q2, decide_eq_false fun w => q2 (List.cons.inj w).2]
    · rw [beq_eq_false_iff_ne.mpr q, Bool.false_and, decide_eq_false fun w => q (List.cons.inj w).1]
/-! two ways to say a clash -/
def clashL (cols ks : List Str) (xs ys : List V) : Bool := decide (ks ≠ []) && ks.all fun k => sameAt xs ys (cols.idxOf k)
theorem idx_get {cols : List Str} (nd : cols.Nodup) {i : Nat} (h : i < cols.length) : cols.idxOf (cols.getD i Str.empty) = i := by
  have e : cols.getD i Str.empty = cols[i] := by
    rw [List.getD_eq_getElem?_getD, List.getElem?_eq_getElem h]
    rfl
  rw [e]
  exact nd.idxOf_getElem i h
theorem clash_ways {cols ks : List Str} (nd : cols.Nodup) (sub : ∀ k ∈ ks, k ∈ cols) (xs ys : List V) : clashL cols ks xs ys = clashB cols ks xs ys := by
  have mem : ∀ i, i ∈ places cols ks cols.length ↔ ∃ k ∈ ks, cols.idxOf k = i := by
    intro i
    unfold places
    rw [List.mem_filter, List.mem_range, List.any_eq_true]
    constructor
    · rintro ⟨h, k, hk, e⟩
      refine ⟨k, hk, ?_⟩
      rw [beq_iff_eq.mp e]
      exact idx_get nd h
    · rintro ⟨k, hk, rfl⟩
      have lt := List.idxOf_lt_length_of_mem (sub k hk)
      refine ⟨lt, k, hk, ?_⟩
      rw [List.getD_eq_getElem?_getD, List.getElem?_eq_getElem lt, List.getElem_idxOf lt]
      exact beq_self_eq_true k
  unfold clashL clashB
  have e1 : decide (ks ≠ []) = decide (0 < (places cols ks cols.length).length) := by
    refine decide_eq_decide.mpr ⟨fun h => ?_, fun h e => ?_⟩
    · cases ks with
      | nil => exact absurd rfl h
      | cons k r => exact List.length_pos_of_mem ((mem _).mpr ⟨k, List.mem_cons_self, rfl⟩)
    · obtain ⟨i, hi⟩ := List.exists_mem_of_length_pos h
      obtain ⟨k, hk, _⟩ := (mem i).mp hi
      rw [e] at hk
      cases hk
  rw [e1]
  congr 1
  rw [Bool.eq_iff_iff, List.all_eq_true, List.all_eq_true]
  constructor
  · intro h i hi
    obtain ⟨k, hk, e⟩ := (mem i).mp hi
    rw [← e]
    exact h k hk
  · intro h k hk
    exact h _ ((mem _).mpr ⟨k, hk, rfl⟩)
def rIdx (K : PySem.W.Frag) : V → List V → Hp → VK → Prop := fun x xs H Q => ∃ p, ∃ ys : List Str, ∃ z j, x = .ref p ∧ xs = [.str z] ∧ SqT K H p (ys.map V.str) ∧ ys[j]? = some z ∧ (∀ m, m < j → ys[m]? ≠ some z) ∧ Q (.int (j : Nat)) H
/-- a table's arguments that are right -/
structure Good (nm : Str) (ss zs ks : List Str) : Prop where
  n1 : nmS nm = true
  n2 : ss.all nmS = true
  n3 : zs.all nmS = true
  n4 : ks.all nmS = true
  l2 : ss.length ≤ 2
  l3 : zs.length ≤ 2
  l4 : ks.length ≤ 4
  ne : 0 < (ss ++ zs).length
  nd : (ss ++ zs).Nodup
  sub : ∀ k ∈ ks, k ∈ ss ++ zs
theorem DPs.set {K : PySem.W.Frag} {H : Hp} {P : Addr → Prop} {n : Nat} {v : V} {t : Tr} (d : DP K H P v t n) : ∀ {vs : List V} {ts : List Tr} (j : Nat), DPs K H P vs ts n → DPs K H P (vs.set j v) (ts.set j t) n
  | _, _, _, ⟨_, .nil, _⟩ => .nil
  | _ :: _, _ :: _, 0, ⟨_, .cons (bs := bs) (cs := cs) h r, p⟩ => .cons d ⟨cs, r, fun b hb => p b (List.mem_append_right _ hb)⟩
  | _ :: _, _ :: _, j + 1, ⟨_, .cons (bs := bs) (cs := cs) h r, p⟩ => .cons ⟨bs, h, fun b hb => p b (List.mem_append_left _ hb)⟩ (DPs.set d j ⟨cs, r, fun b hb => p b (List.mem_append_right _ hb)⟩)
theorem four {α : Type} : ∀ {xs : List α}, xs.length = 4 → ∃ a b c d, xs = [a, b, c, d]
  | [a, b, c, d], _ => ⟨a, b, c, d, rfl⟩
theorem ixN4 {j : Nat} (h : j < 4) : ixN 4 (j : Int) = some j := by
  unfold ixN
  rw [if_pos (by omega), if_pos (by omega)]
  simp
/-- the defs that are called -/
structure Calls (K : PySem.W.Frag) (mg : Str → Option Value) (x : Str) (f : Addr) : Prop where
  g : mg x = some (.ref f)
  k : PySem.W.keepIn K (.ref f) = true
end Vm
namespace Vm
open PySem L2
theorem nm_text {x : Str} (h : nmS x = true) : (reprText x).length ≤ 82 ∧ x.length ≤ 8 := by
  unfold nmS at h
  rw [Bool.and_eq_true, Bool.and_eq_true, decide_eq_true_eq, decide_eq_true_eq, List.all_eq_true] at h
  obtain ⟨_, h8, hl⟩ := h
  have e := StrLaws.reprText_len x fun c hc => by
    have z := hl c hc
    unfold lowB at z
    rw [Bool.and_eq_true, decide_eq_true_eq, decide_eq_true_eq] at z
    omega
  omega
theorem DP.nm {K : PySem.W.Frag} {H : Hp} {P : Addr → Prop} {x : Str} {n : Nat} (h : nmS x = true) : DP K H P (.str x) (.str x) n := .str (Nat.le_trans (nm_text h).1 (by decide)) (Nat.le_trans (nm_text h).2 (by decide))
theorem DPs.nms {K : PySem.W.Frag} {H : Hp} {P : Addr → Prop} {n : Nat} : ∀ {ss : List Str}, ss.all nmS = true → DPs K H P (ss.map V.str) (ss.map Tr.str) n
  | [], _ => .nil
  | x :: r, h => by
    rw [List.all_cons, Bool.and_eq_true] at h
    exact .cons (.nm h.1) (DPs.nms h.2)
theorem ws_nms : ∀ {ss : List Str}, ss.all nmS = true → ws (ss.map Tr.str) ≤ 84 * ss.length
  | [], _ => Nat.zero_le _
  | x :: r, h => by
    rw [List.all_cons, Bool.and_eq_true] at h
    have h1 := ws_nms h.2
    have h2 := (nm_text h.1).1
    show ((reprText x).length + 2) + ws (r.map Tr.str) ≤ 84 * (x :: r).length
    rw [List.length_cons]
    omega
theorem DPs.there {K : PySem.W.Frag} {H : Hp} {P : Addr → Prop} {vs : List V} {ts : List Tr} {n : Nat} (d : DPs K H P vs ts n) : DPs K H (fun c => P c ∧ ∃ o, H c = some o) vs ts n := let ⟨bs, d, p⟩ := d; ⟨bs, d, fun b hb => ⟨p b hb, d.there b hb⟩⟩
theorem DP.there {K : PySem.W.Frag} {H : Hp} {P : Addr → Prop} {v : V} {t : Tr} {n : Nat} (d : DP K H P v t n) : DP K H (fun c => P c ∧ ∃ o, H c = some o) v t n := let ⟨bs, d, p⟩ := d; ⟨bs, d, fun b hb => ⟨p b hb, d.there b hb⟩⟩
end Vm
namespace Vk
open PySem
/-! a family of exception classes: own classes above `tail`, made by the built-in newId of the class nB, set up by the built-in initId of the class iB -/
abbrev veT : List Value := [.type "ValueError", .type "Exception", .type "BaseException", .type "object"]
abbrev keT : List Value := [.type "KeyError", .type "LookupError", .type "Exception", .type "BaseException", .type "object"]
structure Fam (nB newId nInit iB initId : String) (nTail tail : List Value) : Prop where
  F : ExcBaseFacts nB newId nInit nTail
  hasN : tail.contains (.type nB) = true
  hasI : tail.contains (.type iB) = true
  hasB : tail.contains (.type "BaseException") = true
  hasO : tail.contains (.type "object") = true
  noA : tail.contains (.type "AttributeError") = false
  noN : tail.contains (.type "NameError") = false
  iPlain : plainId initId = true
  iEntry : entryFor table initId = some Builtin.«BaseException.__init__»
  iSplit : splitId initId = some (iB, "__init__")
  iKind : builtinKind initId = some .slot
  iRow : Manifest.signature? initId = some ⟨.positional, "*", iB, .self, [⟨"args", .varPos, false⟩]⟩
  iStar : (iB != "*") = true
  passes : ∀ self : Value, refuseLoop self "__setattr__" tail = pure ()
theorem famV : Fam "ValueError" "ValueError.__new__" "ValueError.__init__" "ValueError" "ValueError.__init__" veT veT where
  F := F.excBase_ValueError
  hasN := by decide +kernel
  hasI := by decide +kernel
  hasB := by decide +kernel
  hasO := by decide +kernel
  noA := by decide +kernel
  noN := by decide +kernel
  iPlain := F.excBase_ValueError.init.plain
  iEntry := F.excBase_ValueError.initEntry
  iSplit := F.excBase_ValueError.initSplit
  iKind := F.excBase_ValueError.initKind
  iRow := F.excBase_ValueError.initRow
  iStar := by decide +kernel
  passes := F.store_ValueError.passes
theorem famK : Fam "LookupError" "LookupError.__new__" "LookupError.__init__" "KeyError" "KeyError.__init__" [.type "LookupError", .type "Exception", .type "BaseException", .type "object"] keT where
  F := F.excBase_LookupError
  hasN := by decide +kernel
  hasI := by decide +kernel
  hasB := by decide +kernel
  hasO := by decide +kernel
  noA := by decide +kernel
  noN := by decide +kernel
  iPlain := by decide +kernel
  iEntry := entryFor_alias (id' := "BaseException.__init__") (by
    rw [fastTable_eq_tree]
    kernel_rfl) rfl (by decide +kernel) (by
    rw [fastTable_eq_tree]
    kernel_rfl)
  iSplit := by kernel_rfl
  iKind := by kernel_rfl
  iRow := by kernel_rfl
  iStar := by decide +kernel
  passes := fun self => by kernel_rfl
/-- the mro above the class itself: own classes, then the tail -/
def Above (tail : List Value) : List Value → Prop
  | .ref _ :: r => Above tail r
  | l => l = tail
theorem above_has {tail : List Value} (X : String) : ∀ {l : List Value}, Above tail l → l.contains (.type X) = tail.contains (.type X)
  | [], h => by rw [show ([] : List Value) = tail from h]
  | .ref c :: r, h => by
    rw [List.contains_cons, above_has X (l := r) h]
    rfl
  | .none :: r, h => by rw [show (Value.none :: r) = tail from h]
  | .ellipsis :: r, h => by rw [show (Value.ellipsis :: r) = tail from h]
  | .notImplemented :: r, h => by rw [show (Value.notImplemented :: r) = tail from h]
  | .bool b :: r, h => by rw [show (Value.bool b :: r) = tail from h]
  | .int i t :: r, h => by rw [show (Value.int i t :: r) = tail from h]
  | .float i t :: r, h => by rw [show (Value.float i t :: r) = tail from h]
  | .str i t :: r, h => by rw [show (Value.str i t :: r) = tail from h]
  | .bytes i t :: r, h => by rw [show (Value.bytes i t :: r) = tail from h]
  | .type i :: r, h => by rw [show (Value.type i :: r) = tail from h]
  | .builtin i :: r, h => by rw [show (Value.builtin i :: r) = tail from h]
end Vk
namespace Vk
open PySem Builtin Builtin.ObjectAttr
/-- a fresh exception, its arguments at tp -/
abbrev exNew (C tp : Addr) : Obj := { cls := .ref C, data := .fields #[.ref tp, .none, .none, .none, .bool false, .none] }
section
variable {M : Model} {prog : Program} {w : World} {A : Around} {E : Value → Shared → Prop} {R : Result → Shared → Prop} {h : Heap} {g : Array GenState} {d : Drawn} {t : Nat} {os : OsState}
variable {nm q : Str} {C N : Addr} {bs bm : List Value} {hdct : Bool} {sn : List Str} {sub : List Value} {ab : Bool} {col : Option Bool} {dd : Option Addr} {k0 k1 k2 k3 k5 : Option Value}
variable {nB newId nInit iB initId : String} {nTail tail : List Value}
theorem fam_check_new (Z : Fam nB newId nInit iB initId nTail tail) (up : Above tail bm) {rest : List Value} {kw : List (Str × Value)} {Q : Unit → Shared → Prop}
    (cl : h.get? C = some (excClassObj nm q C N bs bm hdct sn sub ab col dd k0 k1 k2 k3 k5 newId)) (go : Q () ⟨h, g, d, t, os⟩) : wpAny M A (checkBuiltinCall newId ⟨.ref C :: rest, kw⟩) Q E ⟨h, g, d, t, os⟩ := by
  have isB : (Value.ref C :: bm).contains (.type nB) = true := by
    rw [List.contains_cons, above_has nB up, Z.hasN, Bool.or_true]
  have nStar := Z.F.noStar
  simp only [checkBuiltinCall, Z.F.newKind, Z.F.newSplit, Z.F.newRow]
  repeat (first
    | refine wpAny_loadPart_at cl ?_
    | (refine wpAny_isSubtype_exc cl ?_; rw [isB])
    | refine wpAny_staticBase_exc cl ?_
    | refine wpAny_madeBy_exc cl ?_
    | simp only [bne_self_eq_false, Bool.false_eq_true, if_false]
    | wp_step)
  exact go
theorem fam_new (Z : Fam nB newId nInit iB initId nTail tail) (up : Above tail bm) {rest : List Value} {kw : List (Str × Value)}
    (cl : h.get? C = some (excClassObj nm q C N bs bm hdct sn sub ab col dd k0 k1 k2 k3 k5 newId)) (sz : rest.length ≤ sizeLine)
    (go : R (.ok (.ret (.ref (h.objs.size + 1)))) ⟨(h.push { cls := .type "tuple", data := .seq rest.toArray }).push (exNew C h.objs.size), g, d, t, os⟩) :
    codeAny (model prog w) A (.builtin newId ⟨.ref C :: rest, kw⟩) R ⟨h, g, d, t, os⟩ := by
  have fe := Z.F.ends
  have isB : (Value.ref C :: bm).contains (.type nB) = true := by
    rw [List.contains_cons, above_has nB up, Z.hasN, Bool.or_true]
  have isA : (Value.ref C :: bm).contains (.type "AttributeError") = false := by
    rw [List.contains_cons, above_has _ up, Z.noA]
    rfl
  have isN : (Value.ref C :: bm).contains (.type "NameError") = false := by
    rw [List.contains_cons, above_has _ up, Z.noN]
    rfl
  refine codeAny_builtinAt Z.F.entry ?_
  unfold Builtin.«BaseException.__new__»
  refine wpAt_bind ?_
  show wpAt _ _ _ (stack >>= _) _ _ _
  refine wpAt_bind (wpAt_stack fun p below => wpAt_of_wpAny ?_)
  wp_walk
  refine wpAt_of_wpAny ?_
  rw [Z.F.owner]
  repeat (first
    | with_reducible refine wpAny_madeHere_exc Z.F.canon cl ?_
    | with_reducible refine wpAny_loadPart_at cl ?_
    | (with_reducible refine wpAny_isSubtype_exc cl ?_; first | rw [isB] | rw [isA] | rw [isN])
    | wp_step)
  show R _ _
  rw [Heap.size_push]
  exact go
theorem fam_check_init (Z : Fam nB newId nInit iB initId nTail tail) (up : Above tail bm) {e : Addr} {oe : Obj} {rest : List Value} {Q : Unit → Shared → Prop}
    (cl : h.get? C = some (excClassObj nm q C N bs bm hdct sn sub ab col dd k0 k1 k2 k3 k5 newId)) (he : h.get? e = some oe) (hc : oe.cls = .ref C) (go : Q () ⟨h, g, d, t, os⟩) :
    wpAny M A (checkBuiltinCall initId ⟨.ref e :: rest, []⟩) Q E ⟨h, g, d, t, os⟩ := by
  have isB : (Value.ref C :: bm).contains (.type iB) = true := by
    rw [List.contains_cons, above_has iB up, Z.hasI, Bool.or_true]
  have nStar := Z.iStar
  simp only [checkBuiltinCall, Z.iKind, Z.iSplit, Z.iRow]
  repeat (first
    | (with_reducible refine wpAny_loadPart_at he ?_; rw [hc])
    | with_reducible refine wpAny_loadPart_at cl ?_
    | (with_reducible refine wpAny_isSubtype_exc cl ?_; rw [isB])
    | wp_step)
  refine wpAny_onRaise ?_
  have st : ∀ (a b : String) (n : Nat), Bind.check ⟨.positional, "*", iB, .self, [⟨"args", .varPos, false⟩]⟩ a b n (List.map (fun x => x.fst) ({ pos := Value.ref e :: rest } : Args).kw) = pure () := fun a b n => check_star_args _ _ _ _ _ _
  rw [st]
  exact wpAny_pure go
/-- the built-in __init__ on a fresh exception -/
theorem fam_init (Z : Fam nB newId nInit iB initId nTail tail) (up : Above tail bm) {e tp : Addr} {rest : List Value} (cl : h.get? C = some (excClassObj nm q C N bs bm hdct sn sub ab col dd k0 k1 k2 k3 k5 newId))
    (he : h.get? e = some (exNew C tp)) (sz : rest.length ≤ sizeLine)
    (go : ∀ h' t1, (∀ b o, b ≠ e → h.get? b = some o → h'.get? b = some o) → h'.get? e = some (exNew C t1) → R (.ok (.ret .none)) ⟨h', g, d, t, os⟩) :
    codeAny (model prog w) A (.call (.builtin initId) ⟨.ref e :: rest, []⟩) R ⟨h, g, d, t, os⟩ := by
  refine codeAny_call_builtin Z.iPlain Z.iEntry (fam_check_init Z up cl he rfl ?_)
  wp_walk
  refine go _ h.objs.size (fun b o nb ho => ?_) ?_
  · exact (Heap.get?_update_other _ _ (Ne.symm nb)).trans (Heap.get?_push_of_some _ ho)
  · refine (Heap.get?_update_self _ (Heap.get?_push_of_some _ he) rfl).trans ?_
    rfl
/-- the class is called: the built-in __new__, then the class's own __init__ -/
theorem fam_call (Z : Fam nB newId nInit iB initId nTail tail) (up : Above tail bm) {rest : List Value} {kw : List (Str × Value)} {fI : Addr}
    (cl : h.get? C = some (excClassObj nm q C N bs bm hdct sn sub ab col dd k0 k1 k2 k3 k5 newId))
    (hi : W.Looks (model prog w) h (typeLookup (.ref C) "__init__") (some (.ref fI))) (hb : ∀ self, W.Looks (model prog w) h (bindSpecial (.ref fI) self) (.ref fI, [self])) (sz : rest.length ≤ sizeLine)
    (go : codeAny (model prog w) (A.under (.builtin "type.__call__" ⟨.ref C :: rest, kw⟩)) (.call (.ref fI) ⟨.ref (h.objs.size + 1) :: rest, kw⟩) (W.InitBack (h.objs.size + 1) R)
      ⟨(h.push (W.kdv_tup rest)).push (exNew C h.objs.size), g, d, t, os⟩) :
    codeAny (model prog w) A (.call (.ref C) ⟨rest, kw⟩) R ⟨h, g, d, t, os⟩ := by
  have f1 := tc_lookup
  have f2 := tc_bind (.ref C)
  have f3 := tc_sub
  have ty : (⟨h, g, d, t, os⟩ : Shared).TypeIs (.ref C) "type" := ⟨_, cl, rfl⟩
  have k : ∀ b o, h.get? b = some o → ((h.push (W.kdv_tup rest)).push (exNew C h.objs.size)).get? b = some o := fun b o e => Heap.get?_push_of_some _ (Heap.get?_push_of_some _ e)
  have cl2 := k _ _ cl
  have there : ((h.push (W.kdv_tup rest)).push (exNew C h.objs.size)).get? (h.objs.size + 1) = some (exNew C h.objs.size) := by heap_get
  have isC : (Value.ref C :: bm).contains (.ref C) = true := by simp
  have i1 := hi.keeps k
  have b1 := (hb (.ref (h.objs.size + 1))).keeps k
  refine codeAny_of_tree ?_
  show wpAny _ _ (callAny (.ref C) _) _ _ _
  repeat (any_goals (first | assumption | with_reducible refine wpAny_loadPart_at cl ?_ | wp_step))
  refine ⟨rfl, ?_⟩
  refine codeAny_call_builtin_at (Code.quiet_builtin _ (by decide +kernel)) entry_typeCall ?_
  have chk : ∀ {Q : Unit → Shared → Prop} {A' : Around} {E' : Value → Shared → Prop}, Q () ⟨h, g, d, t, os⟩ → wpAny (model prog w) A' (checkBuiltinCall "type.__call__" ⟨.ref C :: rest, kw⟩) Q E' ⟨h, g, d, t, os⟩ := by
    intro Q A' E' go
    simp only [checkBuiltinCall, tc_kind, tc_split]
    repeat (any_goals (first | assumption | with_reducible refine wpAny_loadPart_at cl ?_ | with_reducible refine wpAny_onRaise ?_ | with_reducible refine wpAny_map ?_ | wp_step))
  refine chk ?_
  repeat (first | with_reducible refine wpAny_loadPart_at cl ?_ | with_reducible refine wpAny_madeBy_exc cl ?_ | wp_step)
  refine codeAny_call_builtin_code (Code.quiet_builtin _ Z.F.quiet) (fam_check_new Z up cl ?_)
  refine fam_new Z up cl sz ?_
  show wpAny _ _ _ _ _ ⟨(h.push (W.kdv_tup rest)).push (exNew C h.objs.size), g, d, t, os⟩
  unfold isInstance
  repeat (first | with_reducible refine wpAny_loadPart_at there ?_ | (with_reducible refine wpAny_isSubtype_exc cl2 ?_; rw [isC]) | wp_step)
  show wpAny _ _ (typeLookup (.ref C) _) _ _ _
  refine i1.at ?_
  refine wpAny_holding (wpAny_bind (b1.at ?_))
  refine wpAny_bind (wpAny_call (codeAny_mono go fun r s' z => ?_))
  match r, z with
  | .error e, z => exact z
  | .ok (.ret v), z =>
    obtain ⟨rfl, z⟩ := z
    exact wpAny_pure (wpAny_pure z)
end
end Vk
namespace Vk
open PySem Builtin Builtin.ObjectAttr
section
variable {prog : Program} {w : World} {A : Around} {E : Value → Shared → Prop} {R : Result → Shared → Prop} {hp : Heap} {g : Array GenState} {d : Drawn} {t : Nat} {os : OsState}
variable {nB newId nInit iB initId : String} {nTail tail : List Value}
theorem fam_passes (Z : Fam nB newId nInit iB initId nTail tail) (self : Value) : ∀ {l : List Value}, Above tail l → refuseLoop self "__setattr__" l = pure ()
  | [], h => by
    rw [show ([] : List Value) = tail from h]
    exact Z.passes self
  | .ref c :: r, h => (refuseLoop_ref ..).trans (fam_passes Z self (l := r) h)
  | .none :: r, h => by
    rw [show (Value.none :: r) = tail from h]
    exact Z.passes self
  | .ellipsis :: r, h => by
    rw [show (Value.ellipsis :: r) = tail from h]
    exact Z.passes self
  | .notImplemented :: r, h => by
    rw [show (Value.notImplemented :: r) = tail from h]
    exact Z.passes self
  | .bool b :: r, h => by
    rw [show (Value.bool b :: r) = tail from h]
    exact Z.passes self
  | .int i t :: r, h => by
    rw [show (Value.int i t :: r) = tail from h]
    exact Z.passes self
  | .float i t :: r, h => by
    rw [show (Value.float i t :: r) = tail from h]
    exact Z.passes self
  | .str i t :: r, h => by
    rw [show (Value.str i t :: r) = tail from h]
    exact Z.passes self
  | .bytes i t :: r, h => by
    rw [show (Value.bytes i t :: r) = tail from h]
    exact Z.passes self
  | .type i :: r, h => by
    rw [show (Value.type i :: r) = tail from h]
    exact Z.passes self
  | .builtin i :: r, h => by
    rw [show (Value.builtin i :: r) = tail from h]
    exact Z.passes self
/-- x.name = v, x an exception without a dict -/
theorem fam_store (Z : Fam nB newId nInit iB initId nTail tail) {K : W.Frag} {name : Str} {tk : Tok} {v : Value} {x C tp : Addr} {cd : ClassData} {bm : List Value} (X : K.In hp) (hx : hp.get? x = some (exNew C tp))
    (hcd : W.clsIn K C = some cd) (hm : cd.mro = .ref C :: bm) (up : Above tail bm) (hh : cd.hasDict = true) (ha : W.findIn K (.ref C) name = some none)
    (go : ∀ h' tk' dx, (∀ b o, b ≠ x → hp.get? b = some o → h'.get? b = some o) → hp.objs.size ≤ dx → dx ≠ x → h'.get? x = some { (exNew C tp) with dict := some dx } →
      h'.Ns1 dx (fun y => if y = name then some v else none) → R (.ok (.ret .none)) ⟨h', g, d, tk', os⟩) :
    codeAny (model prog w) A (.call (.builtin "object.__setattr__") ⟨[.ref x, .str name tk, v], []⟩) R ⟨hp, g, d, t, os⟩ := by
  have up' : Above tail (.ref C :: bm) := up
  have I : W.InstAt hp x (exNew C tp) C none := ⟨hx, rfl, rfl, trivial⟩
  have SO := F.store_object
  have isO : cd.mro.contains (.type "object") = true := by
    rw [hm, above_has _ up']
    exact Z.hasO
  have far : x ≠ hp.objs.size := Nat.ne_of_lt (Heap.lt_size hx)
  have inst : W.Looks (model prog w) hp (isInstance (.ref x) (.type "object")) true := I.type.andThen (W.looks_mroIn X (by
    unfold W.mroIn
    rw [hcd, Option.bind_some, if_neg (by rw [hm]; exact Bool.false_ne_true), isO]))
  refine codeAny_call_builtin SO.slot.plain SO.entry (@W.check_slot (model prog w) _ _ ⟨hp, g, d, t, os⟩ "object.__setattr__" "object" "__setattr__" (.ref x) [.str name tk, v] [] _ SO.kind SO.split inst (SO.args (.ref x) (.str name tk) v) ?_)
  have lm : W.Looks (model prog w) hp (mroOf (.ref C)) cd.mro := (W.looks_clsIn X hcd).andThen .now
  have lt : W.Looks (model prog w) hp (storeTaker? none) none := .now
  have lc : W.Looks (model prog w) hp (classData C) cd := W.looks_clsIn X hcd
  rw [W.osa_eq, refuse_eq]
  refine wpAny_bind (wpAny_bind (I.type.at (wpAny_bind (lm.at ?_))))
  rw [hm, fam_passes Z _ up']
  refine wpAny_pure (wpAny_bind (I.type.at (wpAny_bind ((W.looks_findIn X ha).at (wpAny_bind (lt.at ?_))))))
  show wpAny _ _ (storeInOwnDict (.ref x) (.ref C) (.str name tk) name v false) _ _ _
  obtain ⟨nm, bs, mro, ns, qn, hd, sn, sb, ab, col, del⟩ := cd
  dsimp only at hh
  subst hh
  unfold storeInOwnDict ownDictForStores
  repeat (first
    | with_reducible refine HandSPX.store_in_new ?_ ?_
    | with_reducible refine wpAny_loadPart_at hx ?_
    | with_reducible refine lc.at ?_
    | wp_step)
  · exact ⟨_, #[], _, (Heap.get?_update_ne _ _ _ _ far.symm).trans (Heap.get?_push_at rfl rfl), rfl, fun e he => absurd he (by simp), fun _ => rfl⟩
  · intro h' tk' hn' hs
    have hx1 : (hp.push { cls := .type "dict", data := .dict #[] }).get? x = some (exNew C tp) := Heap.get?_push_of_some _ hx
    refine go h' tk' hp.objs.size (fun b o nb ho => ?_) (Nat.le_refl _) far.symm ?_ hn'
    · exact (hs.2 b (Nat.ne_of_lt (Heap.lt_size ho))).trans ((Heap.get?_update_ne _ _ _ _ nb).trans (Heap.get?_push_of_some _ ho))
    · exact (hs.2 x far).trans (Heap.get?_update_self _ hx1 rfl)
end
end Vk
namespace Vk
open PySem L2
/-- what the written part says of an own exception class at C, made by newId -/
structure XC (K : PySem.W.Frag) (C : Addr) (newId : String) (tail : List Value) : Prop where
  cls : ∃ nm q N bs bm sn sub ab col dd k0 k1 k2 k3 k5, K.lookup C = some (excClassObj nm q C N bs bm true sn sub ab col dd k0 k1 k2 k3 k5 newId) ∧ Above tail bm
  sa : PySem.W.findIn K (.ref C) "__setattr__" = some (some (.builtin "object.__setattr__"))
  exC : PySem.W.subIn K (.ref C) (.type "BaseException") = some true
  tyC : PySem.W.typeIn K (.ref C) = some (.type "type")
  kC : PySem.W.keepIn K (.ref C) = true
  ga : PySem.W.findIn K (.ref C) "__getattribute__" = some (some (.builtin "BaseException.__getattribute__"))
  gg : PySem.W.findIn K (.ref C) "__getattr__" = some none
  hd : PySem.W.hasDictIn K C = true
  ca : PySem.W.findIn K (.ref C) "__class__" = some (some (.builtin "object.__class__"))
  mo : PySem.W.mroIn K C (.type "object") = some true
/-- __init__(self, v) of such a class: self.f = v -/
def spXInit (C : Addr) (f : Str) : Sp := fun vs H Q _ => ∃ (e : Addr) (v : V), vs = [.ref e, v] ∧ H e = some (exo e C none) ∧ ∀ dx, H dx = none → dx ≠ e → Q .non (upd (upd H dx (exd dx [(f, v)])) e (exo e C (some dx)))
/-- an exception of the class at C stands at e, with the field f -/
def XAt (H : Hp) (e C dx : Addr) (f : Str) (v : V) : Prop := dx ≠ e ∧ H e = some (exo e C (some dx)) ∧ H dx = some (exd dx [(f, v)])
section
variable {X : Cx} {nB newId nInit iB initId : String} {nTail tail : List Value}
/-- Base.__init__(self, ..), Base an own class that has no __init__ of its own -/
def tBInit (K : PySem.W.Frag) (newId : String) (tail : List Value) (ta : TA) : TE := fun σ H Q => ta σ H fun vs H1 => ∃ (a C : Addr) (ws : List V), vs = .ref a :: ws ∧ ws.length ≤ 1000 ∧ XC K C newId tail ∧ H1 a = some (exo a C none) ∧ Q .non H1
theorem pe_binit (Z : Fam nB newId nInit iB initId nTail tail) {T : Addr} {x : Str} {e : Expr} {es : List Expr} {ta : TA} {p1 p2 pos : Pos} {pl : Sem Bool} (hg : Gl X x) (hm : X.mg x = some (.ref T))
    (sg : PySem.W.specialIn X.K (.ref T) "__getattribute__" = some (some (.builtin "type.__getattribute__"))) (ty : PySem.W.typeIn X.K (.ref T) = some (.type "type")) (rd : PySem.W.readsIn X.K T (.type "type") = true)
    (fi : PySem.W.findCls X.K (.ref T) (.type "type") "__init__" = some (.val (.builtin initId))) (hh : PySem.W.handedIn (.builtin initId) = true) (ha : PA X (e :: es) ta) (hdb : (x == ("__debug__" : Str)) = false := by decide)
    (hc : eval (.Call (.Attribute (.Name x p1) "__init__" p2) (e :: es) [] pos) X.env = (do
      let ov ← eval (.Name x p1) X.env
      standAt p2.atName
      let (f, first) ← holding [ov] (getMethod ov "__init__" pl)
      callWith pos f first (backTo pos (starEach (e :: es) X.env)) (backToKw pos (keywordEach [] X.env))) := by rfl)
    (he : starEach (e :: es) X.env = (false, eval e X.env) :: starEach es X.env := by rfl) (hpl : (backTo pos (starEach es X.env)).any (·.1) = false := by rfl) :
    PE X (.Call (.Attribute (.Name x p1) "__init__" p2) (e :: es) [] pos) (tBInit X.K newId tail ta) := by
  refine ⟨fun pins s σ H Q I h => ?_⟩
  refine PySem.W.methodCall_KW (ld_glob I hg hm ?_ hdb) hc
  obtain ⟨m, fr⟩ := I.fr
  refine PySem.W.method_of_cls fr I.ok.mod.kin sg (PySem.W.cls_val fr I.ok.mod.kin ty rd fi hh ?_)
  show wpAny _ _ (callWith pos (Value.builtin initId) [] (backTo pos (starEach (e :: es) X.env)) []) _ _ _
  refine PyProof.Rows.callWith_method1 (thn (ha.run pos pins _ σ H _ (I.tok _) h) fun us s1 ⟨vs, H1, I1, r1, a, C, ws, ev, hl, T, ea, q⟩ => ?_) he hpl
  subst ev
  cases r1 with
  | @cons _ u0 _ ur ra rw' =>
    obtain rfl : u0 = Value.ref a := ra
    have sz : ur.length ≤ sizeLine := by
      rw [← Paired.length rw']
      exact Nat.le_trans hl (by decide)
    obtain ⟨nm, q', N, bs, bm, sn, sub, ab, col, dd, k0, k1, k2, k3, k5, cl, up⟩ := T.cls
    obtain ⟨t1, ho⟩ := exo_at I1.hok ea
    obtain ⟨hp, g, d, t, os⟩ := s1
    refine wpAny_call (fam_init Z up (I1.kIn _ _ cl) ho sz fun h' t2 k hx => ?_)
    have J := I1.write (t' := t) (x := a) (e := a) (o := exo a C none) (by rw [ea]; exact True.intro) (.inl rfl) k ⟨_, hx⟩ (exo_ok hx)
    have eu : upd H1 a (exo a C none) = H1 := by
      funext b
      by_cases hb : b = a
      · rw [hb, upd_same, ea]
      · rw [upd_ne hb]
    rw [eu] at J
    exact ⟨.non, H1, J, rfl, q⟩
/-- self.f = e, the first field -/
def tXSt (K : PySem.W.Frag) (newId : String) (tail : List Value) (f : Str) (to te : TE) : TS := fun D σ H => te σ H fun y H1 => to σ H1 fun x H2 => ∃ a C : Addr, x = .ref a ∧ XC K C newId tail ∧ PySem.W.findIn K (.ref C) f = some none ∧
  H2 a = some (exo a C none) ∧ ∀ dx, H2 dx = none → dx ≠ a → D.nx σ (upd (upd H2 dx (exd dx [(f, y)])) a (exo a C (some dx)))
theorem ps_xst (Z : Fam nB newId nInit iB initId nTail tail) {o e : Expr} {f : Str} {to te : TE} {pos p' : Pos} (ho : PE X o to) (he : PE X e te) (hs : swapsWith e (some (.Attribute o f p')) pos.line X.env = pure false := by rfl) :
    PS X (.Assign [.Attribute o f p'] e pos) (tXSt X.K newId tail f to te) := by
  refine ⟨fun pins s σ H D I h => ?_⟩
  refine plainObj_wpAny_Assign_Attribute (thn (he.run pins s σ H _ I h) fun v s1 ⟨y, H1, I1, r1, q1⟩ => thn (ho.run pins s1 σ H1 _ I1 q1) fun u s2 ⟨x, H2, I2, r2, a, C, ex, T, hno, ea, q⟩ => ?_) hs
  subst ex
  obtain rfl : u = Value.ref a := r2
  obtain ⟨nm, q', N, bs, bm, sn, sub, ab, col, dd, k0, k1, k2, k3, k5, cl, up⟩ := T.cls
  have hcl : PySem.W.clsIn X.K C = some { name := nm, bases := bs, mro := .ref C :: bm, ns := N, qualname := q', hasDict := true, slotNames := sn, subclasses := sub, abstract := ab, collection := col, hasDel := false } := by
    unfold PySem.W.clsIn
    rw [cl] <;> rfl
  obtain ⟨t1, hx⟩ := exo_at I2.hok ea
  obtain ⟨hp, g, d, t, os⟩ := s2
  refine PySem.W.set_plain I2.kIn (ox := exNew C t1) (od := none) ⟨hx, rfl, rfl, trivial⟩ T.sa ?_
  refine fam_store Z I2.kIn hx hcl rfl up rfl hno (fun h' tk' dx k dn dne hx' hn => ?_)
  have nd : H2 dx = none := I2.hok.fresh dn
  have nx : ∀ {b : Addr} {ob : Obj}, hp.get? b = some ob → b ≠ dx := fun {b ob} z => Nat.ne_of_lt (Nat.lt_of_lt_of_le (Heap.lt_size z) dn)
  have na : ∀ {b : Addr}, H2 b = none → b ≠ a := fun {b} n z => by
    rw [z, ea] at n
    cases n
  have U : Un X.fs [] H2 (upd (upd H2 dx (exd dx [(f, y)])) a (exo a C (some dx))) hp h' := {
    keep := fun b ob z n _ _ => k b ob (na n) z
    slot := fun b ob z n _ _ => ⟨ob.slots, k b ob (na n) z⟩
    free := fun b ob z n _ => by
      rw [upd_ne (na n), upd_ne (nx z)]
      exact n
    there := fun b ob z _ => by
      by_cases hb : b = a
      · exact ⟨_, by rw [hb]; exact hx'⟩
      · exact ⟨ob, k b ob hb z⟩
    tups := fun b xs z => by
      rw [upd_ne (at_ne ea z exo_tup), upd_ne (ne_of_none z nd)]
      exact z
    frzs := fun b ob v' z => by
      rw [upd_ne (at_ne ea z exo_frz), upd_ne (ne_of_none z nd)]
      exact z
    tbls := fun b ps z => ⟨#[], by
      rw [upd_ne (at_ne ea z exo_tbl), upd_ne (ne_of_none z nd), z]
      simp⟩ }
  refine ⟨σ, _, I2.un (t' := tk') U fun b ob z => ?_, q dx nd dne⟩
  by_cases hb : b = a
  · subst hb
    rw [upd_same] at z
    cases z
    exact exo_ok hx'
  · rw [upd_ne hb] at z
    by_cases hd : b = dx
    · subst hd
      rw [upd_same] at z
      cases z
      exact exd_ok hn (relO_put (fs := []) r1 fun _ => True.intro)
    · rw [upd_ne hd] at z
      refine (I2.hok b ob z).stay (fun c v' hc e => k c v' ?_ e) (fun c hc => ?_) (fun c xs hc => ?_)
      · rcases hc with hc | hc
        · rw [hc]
          exact hb
        · exact at_ne ea hc exo_own
      · rw [upd_ne (at_ne ea hc exo_own), upd_ne (ne_of_none hc nd)]
        exact hc
      · rw [upd_ne (at_ne ea hc exo_tup), upd_ne (ne_of_none hc nd)]
        exact hc
/-- C(..), an own exception class with its own __init__ at fI: a new exception with a field -/
theorem run_x (Z : Fam nB newId nInit iB initId nTail tail) {C fI : Addr} {fd : FuncData} {k : Nat} {f : Str} (T : XC X.K C newId tail) (iC : PySem.W.findIn X.K (.ref C) "__init__" = some (some (.ref fI))) (tI : PySem.W.typeIn X.K (.ref fI) = some (.type "function"))
    (F1 : FnOk X.prog X.w X.K X.mg X.base CX0 k fI fd ["self", f] (spXInit C f)) (hr : Room (k + 1) X.A) {rest : List Value} {kw : List (Str × Value)} {u : Value} {v : V} (sz : rest.length ≤ sizeLine)
    (hb : ∀ (s : Shared) (a : Value), X.K.In s.heap → BindsTo s fd ⟨a :: rest, kw⟩ ((["self", f] : List Str).zip [a, u]))
    {pins : List (Addr × Obj)} {σ : St} {H : Hp} {s : Shared} {Q : VK} (I : Inv X pins σ H s) (r : RelV v u)
    (h : ∀ (e dx : Addr) (H2 : Hp), Same H H2 → H e = none → H dx = none → XAt H2 e C dx f v → Q (.ref e) H2) : wpAny (model X.prog X.w) X.A (call (.ref C) rest kw) (EP X pins σ Q) X.xe s := by
  obtain ⟨nm, q', N, bs, bm, sn, sub, ab, col, dd, k0, k1, k2, k3, k5, cl, up⟩ := T.cls
  obtain ⟨hp, g, d, t, os⟩ := s
  have big : hp.objs.size ≤ hp.objs.size + 1 := Nat.le_succ _
  have n0 : H (hp.objs.size + 1) = none := I.hok.fresh big
  have kk : ∀ b o, hp.get? b = some o → ((hp.push (PySem.W.kdv_tup rest)).push (exNew C hp.objs.size)).get? b = some o := fun b o e => Heap.get?_push_of_some _ (Heap.get?_push_of_some _ e)
  have at0 : ((hp.push (PySem.W.kdv_tup rest)).push (exNew C hp.objs.size)).get? (hp.objs.size + 1) = some (exNew C hp.objs.size) := by heap_get
  have I2 : Inv X pins σ (upd H (hp.objs.size + 1) (exo (hp.objs.size + 1) C none)) ⟨(hp.push (PySem.W.kdv_tup rest)).push (exNew C hp.objs.size), g, d, t, os⟩ :=
    I.laid (t' := t) (a := hp.objs.size + 1) (o := exo (hp.objs.size + 1) C none) (h' := (hp.push (PySem.W.kdv_tup rest)).push (exNew C hp.objs.size)) kk big (exo_ok at0)
  have r2 : Vals [V.ref (hp.objs.size + 1), v] [Value.ref (hp.objs.size + 1), u] := .cons rfl (.cons r .nil)
  have want : spXInit C f [V.ref (hp.objs.size + 1), v] (upd H (hp.objs.size + 1) (exo (hp.objs.size + 1) C none)) (fun x H2 => x = .non ∧ Q (.ref (hp.objs.size + 1)) H2) (fun _ _ _ => False) := by
    refine ⟨_, _, rfl, upd_same, fun dx ndx ne => ?_⟩
    have nd0 : H dx = none := by
      rw [← ndx, upd_ne ne]
    refine ⟨rfl, h _ dx _ (fun b o e => ?_) n0 nd0 ⟨ne, upd_same, ?_⟩⟩
    · rw [upd_ne (ne_of_none e n0), upd_ne (ne_of_none e nd0), upd_ne (ne_of_none e n0)]
      exact e
    · rw [upd_ne ne, upd_same]
  refine wpAny_call (fam_call Z up (I.kIn _ _ cl) (PySem.W.looks_findIn I.kIn iC) (fun self => PySem.W.bind_fn I.kIn self tI) sz
    (codeAny_mono (F1.run _ X.stack _ _ ⟨Value.ref (hp.objs.size + 1) :: rest, kw⟩ [Value.ref (hp.objs.size + 1), u] _ _ (fun _ _ _ => False) (hr.make C rest kw) (I2.env0.make C rest kw) (hb _ _ I2.kIn) r2 want) fun r s' hq => ?_))
  cases r with
  | error er => exact hq.elim
  | ok fl =>
    cases fl with
    | ret u2 =>
      obtain ⟨x, H', I3, rx, ev, q3⟩ := I2.after hq
      subst ev
      exact ⟨rx, ⟨.ref (hp.objs.size + 1), H', I3, rfl, q3⟩⟩
    | next => exact hq.elim
    | brk => exact hq.elim
    | cont => exact hq.elim
/-- the reading of C(e) and C(f = e) -/
def tXMk (C : Addr) (f : Str) (te : TE) : TE := fun σ H Q => te σ H fun v H1 => ∀ (e dx : Addr) (H2 : Hp), Same H1 H2 → H1 e = none → H1 dx = none → XAt H2 e C dx f v → Q (.ref e) H2
theorem pe_xmk (Z : Fam nB newId nInit iB initId nTail tail) {C fI : Addr} {fd : FuncData} {k : Nat} {f x : Str} {e : Expr} {te : TE} {p pos : Pos} (T : XC X.K C newId tail) (iC : PySem.W.findIn X.K (.ref C) "__init__" = some (some (.ref fI)))
    (tI : PySem.W.typeIn X.K (.ref fI) = some (.type "function")) (F1 : FnOk X.prog X.w X.K X.mg X.base CX0 k fI fd ["self", f] (spXInit C f)) (hr : Room (k + 1) X.A) (hb : Binds X.K fd ["self", f] []) (hg : Gl X x) (hm : X.mg x = some (.ref C))
    (he : PE X e te) (hdb : (x == ("__debug__" : Str)) = false := by decide) (hs : starEach [e] X.env = (false, eval e X.env) :: starEach [] X.env := by rfl) :
    PE X (.Call (.Name x p) [e] [] pos) (tXMk C f te) := by
  refine ⟨fun pins s σ H Q I h => ?_⟩
  refine wpAny_Call_Name_kw (ld_glob I hg hm ?_ hdb)
  refine PySem.W.callWith_K (h₀ := X.base) I.ok.mod.kin T.kC ?_ hs (by rfl)
  rw [hs]
  show wpAny _ _ (spliced ((false, eval e X.env) :: backTo pos (starEach [] X.env))) _ _ s
  refine Calls.spliced_cons (thn (he.run pins s σ H _ I h) fun u s1 ⟨v, H1, I1, r1, q1⟩ => ?_)
  refine Calls.spliced_nil ⟨I1.kIn, ?_⟩
  exact run_x Z T iC tI F1 hr (rest := [u]) (kw := []) (by show 1 ≤ sizeLine; decide) (fun s a hK => by
    have z := hb s [a, u] hK rfl
    exact z) I1 r1 q1
theorem pe_xmkN (Z : Fam nB newId nInit iB initId nTail tail) {C fI : Addr} {fd : FuncData} {k : Nat} {f x : Str} {e : Expr} {te : TE} {p pos kpos : Pos} (T : XC X.K C newId tail) (iC : PySem.W.findIn X.K (.ref C) "__init__" = some (some (.ref fI)))
    (tI : PySem.W.typeIn X.K (.ref fI) = some (.type "function")) (F1 : FnOk X.prog X.w X.K X.mg X.base CX0 k fI fd ["self", f] (spXInit C f)) (hr : Room (k + 1) X.A)
    (hb : ∀ (s : Shared) (a u : Value), X.K.In s.heap → BindsTo s fd ⟨[a], [(f, u)]⟩ ((["self", f] : List Str).zip [a, u])) (hg : Gl X x) (hm : X.mg x = some (.ref C))
    (he : PE X e te) (hall : (backToKw pos (keywordEach [⟨some f, e, kpos⟩] X.env)).all (·.1.isSome) = true := by rfl) (hks : (backToKw pos (keywordEach [⟨some f, e, kpos⟩] X.env)).filterMap (·.1) = [f] := by rfl) (hdb : (x == ("__debug__" : Str)) = false := by decide)
    (hpl : ((backTo pos (starEach [] X.env)).any (·.1) || (backToKw pos (keywordEach [⟨some f, e, kpos⟩] X.env)).any (·.1.isNone)) = false := by rfl) :
    PE X (.Call (.Name x p) [] [⟨some f, e, kpos⟩] pos) (tXMk C f te) := by
  refine ⟨fun pins s σ H Q I h => ?_⟩
  refine wpAny_Call_Name_kw (ld_glob I hg hm ?_ hdb)
  refine PySem.W.callWith_KW0 (h₀ := X.base) I.ok.mod.kin T.kC hall ?_ hpl
  refine thn ((pk_cons (nm := some f) (kpos := kpos) he pk_nil).run pos pins s σ H (fun zs H1 => match zs with
    | [v] => ∀ (e dx : Addr) (H2 : Hp), Same H1 H2 → H1 e = none → H1 dx = none → XAt H2 e C dx f v → Q (.ref e) H2
    | _ => False) I h) fun ws s2 ⟨zs, H2, I2, rz, q2⟩ => ⟨I2.kIn, ?_⟩
  rw [hks]
  match zs, rz, q2 with
  | [v], rz, q2 =>
    obtain ⟨u, rfl, rv⟩ := vals1 rz
    exact run_x Z T iC tI F1 hr (rest := []) (kw := [(f, u)]) (Nat.zero_le _) (fun s a hK => hb s a u hK) I2 rv q2
end
end Vk
namespace Vk
open PySem L2
/-- an exception object stands at a: without a dict, or with one -/
inductive XObj (H : Hp) (a C : Addr) : Prop where
  | bare (h : H a = some (ExO (.ref C) a)) : XObj H a C
  | full {dx : Addr} {fs : List (Str × V)} (h : H a = some (exo a C (some dx))) (hd : H dx = some (exd dx fs)) : XObj H a C
theorem XAt.obj {H : Hp} {a C dx : Addr} {f : Str} {v : V} (h : XAt H a C dx f v) : XObj H a C := by
  obtain ⟨_, h1, h2⟩ := h
  exact .full h1 h2
/-- the two facts of every class -/
structure XG (K : PySem.W.Frag) : Prop where
  cn : PySem.W.specialIn K (.builtin "object.__class__") "__get__" = some (some (.builtin "getset_descriptor.__get__"))
  ct : PySem.W.takesIn K (.builtin "object.__class__") = some true
section
variable {X : Cx} {pins : List (Addr × Obj)} {σ : St} {H : Hp} {s : Shared} {newId : String} {tail : List Value}
theorem exd_look {dx : Addr} {fs : List (Str × V)} (I : Inv X pins σ H s) (h : H dx = some (exd dx fs)) : ∃ od, s.heap.get? dx = some od ∧ ∀ f, ∃ m, PySem.W.lookIn f od = some m ∧ RelO (fs.lookup f) m := by
  obtain ⟨mA, hn, hr⟩ := exd_at I.hok h
  obtain ⟨od, ho, hl⟩ := lookIn_ns hn
  exact ⟨od, ho, fun f => ⟨mA f, hl f, hr f⟩⟩
theorem XObj.inst {a C : Addr} (I : Inv X pins σ H s) (h : XObj H a C) : ∃ ox od, PySem.W.InstAt s.heap a ox C od := by
  cases h with
  | bare h =>
    obtain ⟨⟨oe, vs, e, z, d, _⟩, _⟩ := I.hok _ _ h
    exact ⟨oe, none, e, z.1, by unfold PySem.W.notCls; rw [d] <;> rfl, by rw [z.2]; exact True.intro⟩
  | full h hd =>
    obtain ⟨t1, e⟩ := exo_at I.hok h
    obtain ⟨od, ho, _⟩ := exd_look I hd
    exact ⟨_, some od, e, rfl, rfl, ho⟩
theorem call_isX (G : XG X.K) : CallR X (.builtin "isinstance") (fun xs H Q => ∃ (a C : Addr) (nid : String) (tl : List Value) (c : V) (u : Value) (b : Bool), xs = [.ref a, c] ∧ XObj H a C ∧ XC X.K C nid tl ∧ ClsV c u ∧ PySem.W.kitOne X.K (.ref C) u = some b ∧ Q (.bl b) H) := by
  intro pins s σ H xs us Q I r h
  obtain ⟨a, C, nid, tl, c, u, b, rfl, xo, T, k, e, q⟩ := h
  obtain ⟨u1, u2, rfl, r1, r2⟩ := vals2 r
  have e2 := k.eq r2
  subst e2
  obtain rfl : u1 = Value.ref a := r1
  obtain ⟨ox, od, J⟩ := xo.inst I
  have cl : (PySem.W.clsIn X.K C).isSome = true := by
    obtain ⟨nm, q', N, bs, bm, sn, sub, ab, col, dd, k0, k1, k2, k3, k5, cl, up⟩ := T.cls
    unfold PySem.W.clsIn
    rw [cl] <;> rfl
  exact PySem.W.kia_one (PySem.W.kitx_exc (ox := ox) (od := od) cl T.ga T.gg T.exC T.ca G.cn G.ct T.mo) I.kIn J e (fun z => nomatch z) fun tk => ⟨.bl b, H, I.tok tk, rfl, q⟩
/-- e.f, the field of an exception -/
def tXGet (K : PySem.W.Frag) (te : TE) (f : Str) : TE := fun σ H Q => te σ H fun x H1 => ∃ (a C dx : Addr) (nid : String) (tl : List Value) (v : V), x = .ref a ∧ XAt H1 a C dx f v ∧ XC K C nid tl ∧ PySem.W.findIn K (.ref C) f = some none ∧ Q v H1
theorem pe_xget {e : Expr} {te : TE} {f : Str} {pos : Pos} (he : PE X e te) (hb : attributeBase e f X.env (eval e X.env) = eval e X.env := by rfl) : PE X (.Attribute e f pos) (tXGet X.K te f) := by
  refine ⟨fun pins s σ H Q I h => ?_⟩
  refine attr_of hb (thn (he.run pins s σ H _ I h) fun u s1 hh => ?_)
  obtain ⟨x, H1, I1, rx, a, C, dx, nid, tl, v, ex, ⟨_, h1, h2⟩, T, hno, q⟩ := hh
  subst ex
  obtain rfl : u = Value.ref a := rx
  obtain ⟨t1, ea⟩ := exo_at I1.hok h1
  obtain ⟨od, ho, lk⟩ := exd_look I1 h2
  obtain ⟨m, hm, rm⟩ := lk f
  have l : List.lookup f [(f, v)] = some v := by simp [List.lookup]
  rw [l] at rm
  obtain ⟨u, rfl, ru⟩ : ∃ u, m = some u ∧ RelV v u := by
    cases m with
    | none => exact rm.elim
    | some u => exact ⟨u, rfl, rm⟩
  have J : PySem.W.InstAt s1.heap a _ C (some od) := ⟨ea, rfl, rfl, ho⟩
  exact HandSPX.exc_get I1.kIn J T.ga T.gg T.exC (PySem.W.findObj_own T.hd hno rfl hm) (handed_of ru) ⟨v, H1, I1.tok _, ru, q⟩
/-- C(), an own exception class without __init__ -/
theorem pe_xbare {C : Addr} {bmB : List Value} {B nid initId : String} {x : Str} {p pos : Pos} (F : ExcBaseFacts B nid initId bmB) (q : PySem.W.excIn X.K C bmB nid = true) (gC : X.mg x = some (.ref C)) (kC : PySem.W.keepIn X.K (.ref C) = true) (hg : Gl X x)
    (hdb : (x == ("__debug__" : Str)) = false := by decide) : PE X (.Call (.Name x p) [] [] pos) (fun _ H Q => ∀ a, H a = none → Q (.ref a) (upd H a (ExO (.ref C) a))) := by
  refine ⟨fun pins s σ H Q I h => ?_⟩
  refine wpAny_Call_Name_kw (ld_glob I hg gC ?_ hdb)
  refine PySem.W.callWith_K0 I.kIn kC ?_
  show wpAny _ _ (call (.ref C) []) _ _ _
  obtain ⟨bm, N, nm, qn, bs, hdct, sn, sub, ab, col, dd, k0, k1, k2, k3, k5, mN, hC, hN, hni, T⟩ := exc_obj I.kIn q
  refine wpAny_call_exc_subT F T hC hN hni (fun h' a hm => ?_) (Nat.zero_le _)
  have hn : H a = none := I.hok.gone hm.new
  obtain ⟨t, ht, _, _⟩ := hm.there
  exact ⟨.ref a, upd H a (ExO (.ref C) a), I.laidN hm.keeps hm.new hn (exO_ok ht ⟨rfl, rfl⟩ rfl rfl rfl (show 4 < 6 by decide)), rfl, h a hn⟩
/-- what gives a new exception with a dict back makes an exception -/
theorem pmk_retX {e : Expr} {te : TE} (hx : X.ex = []) (he : PE X e te) :
    PMk X e (fun σ H Q => te σ H fun x H1 => ∃ (a C dx : Addr) (fs : List (Str × V)), x = .ref a ∧ H1 a = some (exo a C (some dx)) ∧ H1 dx = some (exd dx fs) ∧ dx ≠ a ∧ Fr0 X.H_0 a ∧ Raises X (.ref C) ∧ Q (.ref C) (some dx) (upd (delH H1 a) dx (.xd fs))) := by
  intro pins s σ H Q I h
  refine wpAny_mono (he.run pins s σ H _ I h) (fun u s1 hu => ?_) fun _ _ x => x
  obtain ⟨v, H1, I1, r1, a, C, dx, fs, rfl, ha, hd, ne, h0, hr, q⟩ := hu
  cases r1
  obtain ⟨t1, ho⟩ := exo_at I1.hok ha
  obtain ⟨G, gs, ga, J⟩ := I1.untrack ha h0 hx
  have hd' : delH H1 a dx = some (exd dx fs) := by
    rw [delH_ne ne]
    exact hd
  obtain ⟨mA, hns, rel⟩ := exd_at J.hok hd'
  have J2 := J.write (t' := s1.toks) (x := dx) (e := dx) (o := .xd fs) (by rw [hd']; exact True.intro) (.inl rfl) (fun b u _ e => e) (by obtain ⟨o, es, ep, e, _⟩ := hns; exact ⟨o, e⟩) ⟨mA, hns, rel⟩
  refine ⟨a, _, _, { s1 with heap := G }, upd (delH H1 a) dx (.xd fs), .ref C, some dx, rfl, J2, gs, ga, ho, ⟨rfl, rfl⟩, rfl, rfl, ?_, rfl, I1.bare, hr, q⟩
  rw [upd_ne ne.symm, delH_same]
end
end Vk
namespace Vk
open PySem PySem.Spec PyProof.Rows L2
/-- one except clause: its class, the slot of its name if it has one, its suite -/
structure Clause where
  c : Value
  slot : Option Nat
  ts : Addr → Value → Option Addr → TS
/-- the ends of a suite whose name is in slot i -/
def Ends.drop (D : Ends) (i : Nat) : Ends := { nx := fun σ H => D.nx (σ.set i none) H, rt := D.rt, bk := fun σ H => D.bk (σ.set i none) H, ct := fun σ H => D.ct (σ.set i none) H }
def Clause.runs (k : Clause) (D : Ends) (a : Addr) (cls : Value) (d : Option Addr) (σ : L2.St) (H : Hp) : Prop := match k.slot with
  | none => k.ts a cls d D σ H
  | some i => k.ts a cls d (Ends.drop D i) (σ.set i (some (.ref a))) H
/-- what the clauses wish of an exception of the body -/
def wMix (K : PySem.W.Frag) (Wout : WX) (D : Ends) : List Clause → WX
  | [] => Wout
  | k :: r => fun cls d σ H => ∃ b, PySem.W.exmOne K cls k.c = some b ∧ (b = true → ∀ a, H a = none → k.runs D a cls d σ H) ∧ (b = false → wMix K Wout D r cls d σ H)
inductive Mix (X : Cx) : List ExceptHandler → List Clause → Prop
  | nil : Mix X [] []
  | plain {x : Str} {c : Value} {ts : Addr → Value → Option Addr → TS} {b₀ : Stmt} {suite : List Stmt} {np pos' : Pos} {hds : List ExceptHandler} {l : List Clause} (hc : Names X x c)
      (hsu : ∀ (a : Addr) (oe : Obj) (cls : Value) (d : Option Addr) (pn : List (Addr × Obj)), Zc cls d oe → (∃ vs, oe.data = .fields vs) → PSs (X.suite a ((a, oe) :: pn)) (b₀ :: suite) (ts a cls d)) (r : Mix X hds l) :
      Mix X (.ExceptHandler (some (.Name x np)) none (b₀ :: suite) pos' :: hds) (⟨c, none, ts⟩ :: l)
  | named {x n : Str} {i : Nat} {c : Value} {ts : Addr → Value → Option Addr → TS} {b₀ : Stmt} {suite : List Stmt} {np pos' : Pos} {hds : List ExceptHandler} {l : List Clause} (hi : X.N[i]? = some n) (hl : X.env.kindOf n = some .local) (hc : Names X x c)
      (hsu : ∀ (a : Addr) (oe : Obj) (cls : Value) (d : Option Addr) (pn : List (Addr × Obj)), Zc cls d oe → (∃ vs, oe.data = .fields vs) → PSs (X.suite a ((a, oe) :: pn)) (b₀ :: suite) (ts a cls d)) (r : Mix X hds l) :
      Mix X (.ExceptHandler (some (.Name x np)) (some n) (b₀ :: suite) pos' :: hds) (⟨c, some i, ts⟩ :: l)
section
variable {X : Cx} {body : List Stmt} {h₀ : ExceptHandler} {hds : List ExceptHandler} {l : List Clause} {pos : Pos} {tb : WX → TS} {Wout : WX}
theorem ps_try_mix (hs : X.stack = X.env :: X.outer) (hf : X.env.frame = some X.env.locals) (hN : X.N.Nodup) (tk : Takes X Wout)
    (hb : ∀ (W : WX) (pn : List (Addr × Obj)) (xe : Value → Shared → Prop), Takes (X.tr pn xe) W → PassesOwn (model X.prog X.w) X.A X.env xe → PSs (X.tr pn xe) body (tb W))
    (hh : Mix X (h₀ :: hds) l) : PS X (.Try body (h₀ :: hds) [] [] pos) (fun D σ H => tb (wMix X.K Wout D l) D σ H) := by
  constructor
  intro pins s σ H D I start
  have ok := I.ok
  have frm : X.A.frames = some (X.env :: X.outer) := by rw [ok.frames, hs]
  refine wpAny_Try_except ?_
  have body_run := (hb (wMix X.K Wout D l) (X.pn ++ pins)
    (fun e s₁ => wpAny (model X.prog X.w) X.A (noteFrame e X.env) (fun _ s₂ => wpAny (model X.prog X.w) X.A (setFlight e none)
      (fun _ s₃ => wpAny (model X.prog X.w) X.A (handleBy e X.env (h₀ :: hds)) (SP X pins D) X.xe s₃) X.xe s₂) X.xe s₁)
    (fun u s' caught => by
      obtain ⟨a, B, sI, pins', σ', H', cls, d, rfl, J', nb, up, sky, na, os, ag, want⟩ := caught
      have J : Inv X pins σ' H' sI := J'.ofTry ok
      have sky2 : Sky B (X.env :: X.outer) a (Zc cls d) X.env.locals s'.heap := by
        rw [← hs]
        exact sky
      show wpAny (model X.prog X.w) X.A (noteFrame (.ref a) X.env) _ _ _
      refine Sky.land Zc.steady frm hf sky2 fun h3 fly up3 => ?_
      have J3 : Inv X pins σ' H' { s' with heap := h3 } := J.landed nb fly.1 (up.trans up3) os ag
      obtain ⟨o3, v3, get3, cl3, dt3⟩ := fly.there
      have apart : a ∉ frs (X.env :: X.outer) := fun hm => by
        obtain ⟨_, o', e', hnf⟩ := fly.2.2.1.mem hm
        rw [get3] at e'
        cases e'
        exact hnf _ dt3
      have offL : a ≠ X.env.locals := fun z => apart (List.mem_filterMap.mpr ⟨X.env, List.mem_cons_self, by rw [hf, z]⟩)
      have offF : a ∉ X.fs := fun hm => by
        obtain ⟨e, he, q⟩ := List.mem_filterMap.mp hm
        exact apart (List.mem_filterMap.mpr ⟨e, List.mem_cons_of_mem _ he, q⟩)
      have S3 := J3.suite get3 dt3 na offL offF
      have tyE : PySem.W.Looks (model X.prog X.w) h3 (typeOf (.ref a)) cls := fun A Q E s k q => wpAny_typeOf_ref (k _ _ get3) (by rw [cl3.1]; exact q)
      have look : ∀ {x : Str} {c : Value} {np : Pos} {Q : Value → Shared → Prop} {E : Value → Shared → Prop}, Names X x c → Q c { s' with heap := h3 } →
          wpAny (model X.prog X.w) (X.A.mark (some (.ref a))) (eval (.Name x np) X.env) Q E { s' with heap := h3 } := fun {x c np Q E} nmd q => by
        obtain ⟨hg, hdbg, hm | ⟨hm, hv, hnn⟩⟩ := nmd
        · exact ld_glob (X := X.suite a ((a, o3) :: (X.pn ++ pins))) S3 hg hm q hdbg
        · exact ld_blt (X := X.suite a ((a, o3) :: (X.pn ++ pins))) S3 hg hm hv q hnn hdbg
      have all : ∀ {hds' : List ExceptHandler} {l' : List Clause}, Mix X hds' l' → wMix X.K Wout D l' cls d σ' H' → wpAny (model X.prog X.w) X.A (handleBy (.ref a) X.env hds') (SP X pins D) X.xe { s' with heap := h3 } := by
        intro hds' l' mix
        induction mix with
        | nil =>
          intro want'
          refine wpAny_handleBy_nil ?_
          obtain ⟨k1, k2, k3, oe, vs, T, oT, ts', he, hz, hd, h1, hr⟩ := id fly
          unfold PySem.passOn
          refine wpAny_bind (wpAny_field he hd h1 ?_)
          rw [if_neg (show ¬ ((Value.ref T == Value.none) = true) from by simp)]
          have off : wpAny (model X.prog X.w) X.A (setFlight (.ref a) X.env.frame) (fun _ s4 => wpAny (model X.prog X.w) X.A (throw (.ref a) : Sem Flow) (SP X pins D) X.xe s4) X.xe { s' with heap := h3 } := by
            rw [hf]
            refine HandSPX.setFlight_upZ fly fun h4 hh4 up4 => wpAny_throw (tk _ _ ?_)
            exact ⟨a, B, sI, pins, σ', H', cls, d, rfl, J, nb, (up.trans up3).trans up4, .inr (.inr (by rw [hs]; exact hh4)), na, os, ag, want'⟩
          first
            | exact wpAny_bind (wpAny_pure (wpAny_bind off))
            | exact wpAny_bind off
        | plain hc hsu r ih =>
          intro want'
          obtain ⟨b, hb1, hyes, hno⟩ := want'
          refine wpAny_handleBy_cons (codeAny_handlers_test ?_) (by intro q; cases q)
          refine look hc ((PySem.W.exm_one (M := model X.prog X.w) J3.kIn tyE hb1).here ?_)
          cases b with
          | false =>
            show wpAny _ X.A (handleBy (.ref a) X.env _) _ _ _
            exact ih (hno rfl)
          | true =>
            refine codeAny_handlers_suite ?_
            refine HandSPX.lands_againZ fly fun h4 fl4 up4 => ?_
            have J4 : Inv X pins σ' H' { s' with heap := h4 } := J.landed nb fl4.1 ((up.trans up3).trans up4) os ag
            obtain ⟨o4, v4, get4, cl4, dt4⟩ := fl4.there
            have S4 := J4.suite get4 dt4 na offL offF
            refine wpAny_mono ((hsu a o4 cls d (X.pn ++ pins) cl4 ⟨_, dt4⟩).run [] _ _ H' _ S4 (hyes rfl a na)) (fun f s6 hsp => ?_) (fun _ _ z => False.elim z)
            cases f with
            | next =>
              obtain ⟨σ6, H6, S6, q6⟩ := hsp
              exact ⟨_, _, S6.unsuite ok, q6⟩
            | brk =>
              obtain ⟨σ6, H6, S6, q6⟩ := hsp
              exact ⟨_, _, S6.unsuite ok, q6⟩
            | cont =>
              obtain ⟨σ6, H6, S6, q6⟩ := hsp
              exact ⟨_, _, S6.unsuite ok, q6⟩
            | ret u =>
              obtain ⟨v6, σ6, H6, S6, r6, q6⟩ := hsp
              exact ⟨_, _, _, S6.unsuite ok, r6, q6⟩
        | @named x n i c ts b₀ suite np pos' hds2 l2 hi hln hc hsu r ih =>
          intro want'
          obtain ⟨b, hb1, hyes, hno⟩ := want'
          refine wpAny_handleBy_cons (codeAny_handlers_test ?_) (by intro q; cases q)
          refine look hc ((PySem.W.exm_one (M := model X.prog X.w) J3.kIn tyE hb1).here ?_)
          cases b with
          | false =>
            show wpAny _ X.A (handleBy (.ref a) X.env _) _ _ _
            exact ih (hno rfl)
          | true =>
            refine codeAny_handlers_suite_as ?_
            refine HandSPX.lands_againZ fly fun h4 fl4 up4 => ?_
            have J4 : Inv X pins σ' H' { s' with heap := h4 } := J.landed nb fl4.1 ((up.trans up3).trans up4) os ag
            obtain ⟨o4, v4, get4, cl4, dt4⟩ := fl4.there
            have S4 := J4.suite get4 dt4 na offL offF
            refine store_ok (X := X.suite a ((a, o4) :: (X.pn ++ pins))) (v := .ref a) S4 hN hi (.inl hln) rfl (fun s5 S5 => ?_) (.inr hln)
            refine wpAny_mono ((hsu a o4 cls d (X.pn ++ pins) cl4 ⟨_, dt4⟩).run [] s5 _ H' _ S5 (hyes rfl a na)) (fun f s6 hsp => ?_) (fun _ _ z => False.elim z)
            have wipe : ∀ {σ6 : L2.St} {H6 : Hp} {Q : Shared → Prop}, Inv (X.suite a ((a, o4) :: (X.pn ++ pins))) [] σ6 H6 s6 → (∀ s7, Inv X pins (σ6.set i none) H6 s7 → Q s7) →
                wpAny (model X.prog X.w) X.A (do bindName X.env n .none; unbindBehindTheSuite X.env n pos') (fun _ s7 => Q s7) X.xe s6 := fun {σ6 H6 Q} S6 hq => gone_ok (S6.unsuite ok) hN hi hln hq
            cases f with
            | next =>
              obtain ⟨σ6, H6, S6, q6⟩ := hsp
              exact wipe S6 fun s7 J7 => ⟨_, _, J7, q6⟩
            | brk =>
              obtain ⟨σ6, H6, S6, q6⟩ := hsp
              exact wipe S6 fun s7 J7 => ⟨_, _, J7, q6⟩
            | cont =>
              obtain ⟨σ6, H6, S6, q6⟩ := hsp
              exact wipe S6 fun s7 J7 => ⟨_, _, J7, q6⟩
            | ret u =>
              obtain ⟨v6, σ6, H6, S6, r6, q6⟩ := hsp
              exact wipe S6 fun s7 J7 => ⟨_, _, _, J7, r6, q6⟩
      exact all hh want) PassesOwn.looking).run [] s σ H D (I.toTry _) start
  refine wpAny_mono body_run (fun f s1 hsp => ?_) (fun e s1 he => he)
  cases f with
  | next =>
    obtain ⟨σ', H', J', q⟩ := hsp
    exact wpAny_execs_nil ⟨σ', H', J'.ofTry ok, q⟩
  | brk =>
    obtain ⟨σ', H', J', q⟩ := hsp
    exact ⟨σ', H', J'.ofTry ok, q⟩
  | cont =>
    obtain ⟨σ', H', J', q⟩ := hsp
    exact ⟨σ', H', J'.ofTry ok, q⟩
  | ret u =>
    obtain ⟨v, σ', H', J', r, q⟩ := hsp
    exact ⟨v, σ', H', J'.ofTry ok, r, q⟩
end
end Vk
/-! rows: tuples of names and integers that were made here; in, ==, sorted, remove -/
namespace Vm
open PySem PySem.Spec PyProof.Rows L2
inductive Cell where
  | s (x : Str)
  | i (n : Int)
deriving DecidableEq
abbrev Row := List Cell
def Cell.v : Cell → V
  | .s x => .str x
  | .i n => .int n
def Cell.t : Cell → Tr
  | .s x => .str x
  | .i n => .int n
def Cell.d : Cell → PyData
  | .s x => .str x
  | .i n => .int n
def Cell.isS : Cell → Bool
  | .s _ => true
  | .i _ => false
def Cell.tok : Cell → Int ⊕ List Nat
  | .s x => .inr x.cps.toList
  | .i n => .inl n
def rowT (r : Row) : Tr := .tup (r.map Cell.t)
def rowD (r : Row) : PyData := .tuple (r.map Cell.d)
def RwAt (H : Hp) (v : V) (r : Row) : Prop := ∃ (p : Addr) (o : Obj), v = .ref p ∧ H p = some (.frz o (.tup (r.map Cell.v))) ∧ o.dict = none
abbrev RowsAt (H : Hp) : List V → List Row → Prop := PySem.W.EachIs (RwAt H)
/-- tuples that were made here stay -/
def Fz (H H' : Hp) : Prop := ∀ b o xs, H b = some (.frz o (.tup xs)) → H' b = some (.frz o (.tup xs))
theorem Fz.of_same {H H' : Hp} (k : Same H H') : Fz H H' := fun _ _ _ e => k _ _ e
theorem Fz.trans {H H1 H2 : Hp} (a : Fz H H1) (b : Fz H1 H2) : Fz H H2 := fun _ _ _ e => b _ _ _ (a _ _ _ e)
theorem Fz.refl (H : Hp) : Fz H H := fun _ _ _ e => e
theorem RwAt.keep {H H' : Hp} {v : V} {r : Row} (k : Fz H H') (h : RwAt H v r) : RwAt H' v r := let ⟨p, o, e, h, d⟩ := h; ⟨p, o, e, k _ _ _ h, d⟩
theorem RowsAt.keep {H H' : Hp} {vs : List V} {rs : List Row} (k : Fz H H') (h : RowsAt H vs rs) : RowsAt H' vs rs := h.mono fun _ _ => RwAt.keep k
theorem But.fz {s l : Addr} {H H' : Hp} {ms : List Int} {z b : Int} (k : But s l H H') (hs : Src H s l ms z b) : Fz H H' := fun c o xs e => k _ _ (fun q => by
  rw [q, hs.hs] at e
  cases e) (fun q => by
  rw [q, hs.hl] at e
  cases e) e
/-! lists that go together -/
section
variable {α β : Type} {R : α → β → Prop}
theorem each_append : ∀ {a c : List α} {b d : List β}, PySem.W.EachIs R a b → PySem.W.EachIs R c d → PySem.W.EachIs R (a ++ c) (b ++ d)
  | _, _, _, _, .nil, h => h
  | _, _, _, _, .cons h r, q => .cons h (each_append r q)
theorem each_get : ∀ {a : List α} {b : List β}, PySem.W.EachIs R a b → ∀ {i : Nat} {x : α}, a[i]? = some x → ∃ y, b[i]? = some y ∧ R x y
  | _, _, .nil, _, _, e => nomatch e
  | _, _, .cons h r, 0, _, e => ⟨_, rfl, Option.some.inj e ▸ h⟩
  | _, _, .cons h r, i + 1, _, e => each_get r (i := i) e
theorem each_get' : ∀ {a : List α} {b : List β}, PySem.W.EachIs R a b → ∀ {i : Nat} {y : β}, b[i]? = some y → ∃ x, a[i]? = some x ∧ R x y
  | _, _, .nil, _, _, e => nomatch e
  | _, _, .cons h r, 0, _, e => ⟨_, rfl, Option.some.inj e ▸ h⟩
  | _, _, .cons h r, i + 1, _, e => each_get' r (i := i) e
theorem each_erase : ∀ {a : List α} {b : List β}, PySem.W.EachIs R a b → ∀ i, PySem.W.EachIs R (a.eraseIdx i) (b.eraseIdx i)
  | _, _, .nil, _ => .nil
  | _, _, .cons h r, 0 => r
  | _, _, .cons h r, i + 1 => .cons h (each_erase r i)
theorem each_set : ∀ {a : List α} {b : List β}, PySem.W.EachIs R a b → ∀ i {x y}, R x y → PySem.W.EachIs R (a.set i x) (b.set i y)
  | _, _, .nil, _, _, _, _ => .nil
  | _, _, .cons h r, 0, _, _, q => .cons q r
  | _, _, .cons h r, i + 1, _, _, q => .cons h (each_set r i q)
end
section
variable {K : PySem.W.Frag} {H : Hp}
theorem cellsDp : ∀ r : Row, DpAll K H (r.map Cell.v) (r.map Cell.d)
  | [] => .nil
  | .s x :: r => .cons (.str x) (cellsDp r)
  | .i n :: r => .cons (.int n) (cellsDp r)
theorem RwAt.dp {v : V} {r : Row} (h : RwAt H v r) : Dp K H v (rowD r) := by
  obtain ⟨p, o, rfl, h, _⟩ := h
  exact .tup (.inl (.inr ⟨o, h⟩)) (cellsDp r)
theorem rows_dp : ∀ {vs : List V} {rs : List Row}, RowsAt H vs rs → DpAll K H vs (rs.map rowD)
  | _, _, .nil => .nil
  | _, _, .cons h r => .cons h.dp (rows_dp r)
end
theorem cells_plain : ∀ r : Row, PyData.plainAll (r.map Cell.d) = true
  | [] => rfl
  | .s x :: r => by
    show (true && PyData.plainAll (r.map Cell.d)) = true
    rw [cells_plain r]
    rfl
  | .i x :: r => by
    show (true && PyData.plainAll (r.map Cell.d)) = true
    rw [cells_plain r]
    rfl
theorem row_plain (r : Row) : (rowD r).plain = true := cells_plain r
theorem rows_plain : ∀ rs : List Row, PyData.plainAll (rs.map rowD) = true
  | [] => rfl
  | r :: rs => by
    show ((rowD r).plain && PyData.plainAll (rs.map rowD)) = true
    rw [row_plain, rows_plain rs]
    rfl
theorem cells_depth : ∀ r : Row, PyData.depthAll (r.map Cell.d) = 0
  | [] => rfl
  | .s x :: r => by
    show max 0 (PyData.depthAll (r.map Cell.d)) = 0
    rw [cells_depth r]
    rfl
  | .i x :: r => by
    show max 0 (PyData.depthAll (r.map Cell.d)) = 0
    rw [cells_depth r]
    rfl
theorem row_depth (r : Row) : (rowD r).depth = 1 := by
  unfold rowD
  simp only [PyData.depth, cells_depth r]
theorem cells_eqv : ∀ r q : Row, PyData.eqvAll (r.map Cell.d) (q.map Cell.d) = decide (r = q)
  | [], [] => rfl
  | [], _ :: _ => rfl
  | _ :: _, [] => rfl
  | a :: r, b :: q => by
    show (PyData.eqv a.d b.d && PyData.eqvAll (r.map Cell.d) (q.map Cell.d)) = _
    rw [cells_eqv r q]
    have e : PyData.eqv a.d b.d = decide (a = b) := by
      cases a with
      | s x =>
        cases b with
        | s y =>
          show (x == y) = _
          by_cases h : x = y
          · subst h
            rw [beq_self_eq_true, decide_eq_true rfl]
          · rw [beq_eq_false_iff_ne.mpr h, decide_eq_false fun q => h (Cell.s.inj q)]
        | i m => 
          rw [decide_eq_false (fun q => nomatch q)]
          rfl
      | i n =>
        cases b with
        | s y => 
          rw [decide_eq_false (fun q => nomatch q)]
          rfl
        | i m =>
          show (n == m) = _
          by_cases h : n = m
          · subst h
            rw [beq_self_eq_true, decide_eq_true rfl]
          · rw [beq_eq_false_iff_ne.mpr h, decide_eq_false fun q => h (Cell.i.inj q)]
    rw [e]
    by_cases h : a = b
    · subst h
      rw [decide_eq_true rfl, Bool.true_and]
      exact decide_eq_decide.mpr ⟨fun e => by rw [e], fun e => (List.cons.inj e).2⟩
    · rw [decide_eq_false h, Bool.false_and, decide_eq_false fun e => h (List.cons.inj e).1]
theorem row_eqv (r q : Row) : PyData.eqv (rowD r) (rowD q) = decide (r = q) := cells_eqv r q
theorem rows_eqv : ∀ rs qs : List Row, PyData.eqvAll (rs.map rowD) (qs.map rowD) = decide (rs = qs)
  | [], [] => rfl
  | [], _ :: _ => rfl
  | _ :: _, [] => rfl
  | a :: r, b :: q => by
    show (PyData.eqv (rowD a) (rowD b) && PyData.eqvAll (r.map rowD) (q.map rowD)) = _
    rw [rows_eqv r q, row_eqv]
    by_cases h : a = b
    · subst h
      rw [decide_eq_true rfl, Bool.true_and]
      exact decide_eq_decide.mpr ⟨fun e => by rw [e], fun e => (List.cons.inj e).2⟩
    · rw [decide_eq_false h, Bool.false_and, decide_eq_false fun e => h (List.cons.inj e).1]
theorem rows_any (r : Row) : ∀ rs : List Row, ((rs.map rowD).any fun z => PyData.eqv z (rowD r)) = decide (r ∈ rs)
  | [] => rfl
  | q :: rs => by
    rw [List.map_cons, List.any_cons, rows_any r rs, row_eqv]
    by_cases h : q = r
    · subst h
      rw [decide_eq_true rfl, Bool.true_or, decide_eq_true List.mem_cons_self]
    · rw [decide_eq_false h, Bool.false_or]
      exact decide_eq_decide.mpr ⟨List.mem_cons_of_mem _, fun m => (List.mem_cons.mp m).resolve_left fun e => h e.symm⟩
section
variable {X : Cx}
/-- row in rows: a tuple of rows or a list of rows -/
def rInR (K : PySem.W.Frag) (neg : Bool) : R2 := fun x y H Q => ∃ (r : Row) (q : Addr) (vs : List V) (rs : List Row), RwAt H x r ∧ y = .ref q ∧ (SqT K H q vs ∨ SqL K H q vs) ∧ RowsAt H vs rs ∧ Q (.bl (if neg then !decide (r ∈ rs) else decide (r ∈ rs))) H
theorem op_inR (hu : X.A.units + 8 < cLine) : OpR X (compareOp .In) (rInR X.K false) := by
  intro pins s σ H x y v u Q I rx ry h
  obtain ⟨r, q, vs, rs, hr, rfl, hq, hrs, k⟩ := h
  obtain ⟨as, r1⟩ := Dp.reads I (rowD r) x v hr.dp rx
  have hd := row_depth r
  have room : X.A.units + 1 + min (PyData.depthAll (rs.map rowD)) (rowD r).depth < cLine := by omega
  rcases hq with hq | hq
  · obtain ⟨bs, r2⟩ := Dp.reads I (.tuple (rs.map rowD)) _ u (.tup hq (rows_dp hrs)) ry
    refine SeqAt.in_tuple_data r2 r1 (rows_plain rs) (row_plain r) room ⟨.bl _, H, I, rfl, ?_⟩
    rw [rows_any]
    exact k
  · obtain ⟨bs, r2⟩ := Dp.reads I (.list (rs.map rowD)) _ u (.lst hq (rows_dp hrs)) ry
    refine SeqAt.in_list_data r2 r1 (rows_plain rs) (row_plain r) room ⟨.bl _, H, I, rfl, ?_⟩
    rw [rows_any]
    exact k
theorem op_notInR (hu : X.A.units + 8 < cLine) : OpR X (compareOp .NotIn) (rInR X.K true) := by
  intro pins s σ H x y v u Q I rx ry h
  obtain ⟨r, q, vs, rs, hr, rfl, hq, hrs, k⟩ := h
  obtain ⟨as, r1⟩ := Dp.reads I (rowD r) x v hr.dp rx
  have hd := row_depth r
  have room : X.A.units + 1 + min (PyData.depthAll (rs.map rowD)) (rowD r).depth < cLine := by omega
  rcases hq with hq | hq
  · obtain ⟨bs, r2⟩ := Dp.reads I (.tuple (rs.map rowD)) _ u (.tup hq (rows_dp hrs)) ry
    refine SeqAt.notIn_tuple_data r2 r1 (rows_plain rs) (row_plain r) room ⟨.bl _, H, I, rfl, ?_⟩
    rw [rows_any]
    exact k
  · obtain ⟨bs, r2⟩ := Dp.reads I (.list (rs.map rowD)) _ u (.lst hq (rows_dp hrs)) ry
    refine SeqAt.notIn_list_data r2 r1 (rows_plain rs) (row_plain r) room ⟨.bl _, H, I, rfl, ?_⟩
    rw [rows_any]
    exact k
/-- data without dicts: ==, != -/
def rEqP (K : PySem.W.Frag) (neg : Bool) : R2 := fun x y H Q => ∃ (d e : PyData), Dp K H x d ∧ Dp K H y e ∧ d.plain = true ∧ e.plain = true ∧ d.depth ≤ 6 ∧ Q (.bl (if neg then !PyData.eqv d e else PyData.eqv d e)) H
theorem op_eqP (hu : X.A.units + 8 < cLine) : OpR X (compareOp .Eq) (rEqP X.K false) := by
  intro pins s σ H x y v u Q I rx ry h
  obtain ⟨d, e, hd, he, p1, p2, dd, k⟩ := h
  obtain ⟨as, r1⟩ := Dp.reads I d x v hd rx
  obtain ⟨bs, r2⟩ := Dp.reads I e y u he ry
  exact SeqAt.eq_plain r1 r2 p1 p2 (by omega) ⟨.bl _, H, I, rfl, k⟩
theorem op_neP (hu : X.A.units + 8 < cLine) : OpR X (compareOp .NotEq) (rEqP X.K true) := by
  intro pins s σ H x y v u Q I rx ry h
  obtain ⟨d, e, hd, he, p1, p2, dd, k⟩ := h
  obtain ⟨as, r1⟩ := Dp.reads I d x v hd rx
  obtain ⟨bs, r2⟩ := Dp.reads I e y u he ry
  exact SeqAt.ne_plain r1 r2 p1 p2 (by omega) ⟨.bl _, H, I, rfl, k⟩
end
/-! the order of rows -/
def rowK (r : Row) : List (Int ⊕ List Nat) := PySem.W.keyToks (rowD r)
def leR : Row → Row → Bool := PySem.W.sortLe (listOrd itemOrd) false rowK
def sortR (rs : List Row) : List Row := rs.mergeSort leR
theorem sortR_perm (rs : List Row) : (sortR rs).Perm rs := List.mergeSort_perm _ _
def shp (r : Row) : List Bool := r.map Cell.isS
theorem cells_alike : ∀ {r q : Row}, shp r = shp q → PySem.W.alikeAll (r.map Cell.d) (q.map Cell.d) = true
  | [], [], _ => rfl
  | [], _ :: _, e => nomatch e
  | _ :: _, [], e => nomatch e
  | a :: r, b :: q, e => by
    have e2 : a.isS = b.isS ∧ shp r = shp q := List.cons.inj e
    have ih := cells_alike e2.2
    show (PySem.W.alike a.d b.d && PySem.W.alikeAll (r.map Cell.d) (q.map Cell.d)) = true
    rw [ih, Bool.and_true]
    cases a <;> cases b <;> first | rfl | exact nomatch e2.1
theorem row_alike {r q : Row} (e : shp r = shp q) : PySem.W.alike (rowD r) (rowD q) = true := by
  show PySem.W.alikeAll (r.map Cell.d) (q.map Cell.d) = true
  exact cells_alike e
theorem str_cps {x y : Str} (h : x.cps.toList = y.cps.toList) : x = y := PySem.W.str_of_cps h
theorem cells_toks : ∀ {r q : Row}, PySem.W.keyToksAll (r.map Cell.d) = PySem.W.keyToksAll (q.map Cell.d) → r = q
  | [], [], _ => rfl
  | [], _ :: _, e => by
    rw [List.map_nil, List.map_cons, PySem.W.keyToksAll, PySem.W.keyToksAll] at e
    exact absurd (Sum.inl.inj (List.cons.inj e).1) (by decide)
  | _ :: _, [], e => by
    rw [List.map_nil, List.map_cons, PySem.W.keyToksAll, PySem.W.keyToksAll] at e
    exact absurd (Sum.inl.inj (List.cons.inj e).1) (by decide)
  | a :: r, b :: q, e => by
    rw [List.map_cons, List.map_cons, PySem.W.keyToksAll, PySem.W.keyToksAll] at e
    have e1 := (List.cons.inj e).2
    have key : ∀ c : Cell, PySem.W.keyToks c.d = [c.tok] := fun c => by cases c <;> rfl
    rw [key, key] at e1
    obtain ⟨e2, e3⟩ := List.cons.inj e1
    have e4 := cells_toks e3
    have e5 : a = b := by
      cases a with
      | s x =>
        cases b with
        | s y => rw [str_cps (Sum.inr.inj e2)]
        | i m => exact nomatch e2
      | i n =>
        cases b with
        | s y => exact nomatch e2
        | i m => rw [Sum.inl.inj e2]
    rw [e4, e5]
theorem rowK_inj {r q : Row} (e : rowK r = rowK q) : r = q := cells_toks e
theorem leR_anti {r q : Row} (a : leR r q = true) (b : leR q r = true) : r = q := by
  refine rowK_inj ((listOrd itemOrd).total _ _ ?_ ?_)
  · have b' : (!(listOrd itemOrd).blt (rowK r) (rowK q)) = true := b
    simpa using b'
  · have a' : (!(listOrd itemOrd).blt (rowK q) (rowK r)) = true := a
    simpa using a'
theorem leR_total : PySem.W.TotalLe leR := PySem.W.sortLe_total _ _ _
/-- the sorted rows of two lists with the same rows -/
theorem sortR_eq {rs qs : List Row} (h : rs.Perm qs) : sortR rs = sortR qs := by
  have p : (sortR rs).Perm (sortR qs) := (sortR_perm rs).trans (h.trans (sortR_perm qs).symm)
  exact p.eq_of_pairwise (le := fun a b => leR a b = true) (fun a b _ _ h1 h2 => leR_anti h1 h2) (PySem.W.sort_pairwise leR_total rs) (PySem.W.sort_pairwise leR_total qs)
section
variable {X : Cx}
theorem vals_rows {pins : List (Addr × Obj)} {σ : L2.St} {H : Hp} {s : Shared} (I : Inv X pins σ H s) : ∀ {vs : List V} {us : List Value} {rs : List Row}, Vals vs us → RowsAt H vs rs → PySem.W.EachIs (fun u r => (∃ p, u = Value.ref p ∧ RwAt H (.ref p) r) ∧ ∃ as, PySem.Reads s.heap u (rowD r) as) us rs
  | _, _, _, .nil, .nil => .nil
  | _, _, _, .cons r rt, .cons h t => by
    obtain ⟨as, rd⟩ := Dp.reads I (rowD _) _ _ (h.dp (K := X.K)) r
    obtain ⟨p, o, rfl, h2, h3⟩ := h
    cases r
    exact .cons ⟨⟨p, rfl, p, o, rfl, h2, h3⟩, as, rd⟩ (vals_rows I rt t)
theorem rows_vals {H : Hp} : ∀ {us : List Value} {rs : List Row}, PySem.W.EachIs (fun u r => ∃ p, u = Value.ref p ∧ RwAt H (.ref p) r) us rs → ∃ vs, Vals vs us ∧ RowsAt H vs rs
  | _, _, .nil => ⟨[], .nil, .nil⟩
  | _, _, .cons ⟨p, e, h⟩ t => by
    subst e
    obtain ⟨vs, a, b⟩ := rows_vals t
    exact ⟨.ref p :: vs, .cons rfl a, .cons h b⟩
/-- sorted(rows) -/
def rSortR (K : PySem.W.Frag) : List V → Hp → VK → Prop := fun xs H Q => ∃ (p : Addr) (vs : List V) (rs : List Row) (c : Bool) (cs : List Bool), xs = [.ref p] ∧ SqL K H p vs ∧ RowsAt H vs rs ∧ (∀ r ∈ rs, shp r = c :: cs) ∧
  ∀ (q : Addr) (vs' : List V), H q = none → RowsAt H vs' (sortR rs) → Q (.ref q) (upd H q (.lst vs'))
theorem call_sortedR (hu : X.A.units + 8 < cLine) : CallR X (.builtin "sorted") (rSortR X.K) := by
  intro pins s σ H vs us Q I r h
  obtain ⟨p, xs, rs, c, cs, rfl, hp, hrs, hsh, k⟩ := h
  obtain ⟨its, rv, hl, hz⟩ := I.list hp
  rw [Vals.ref1 r]
  have ev := vals_rows I rv hrs
  have lit : its.length ≤ sizeLine := by
    rw [← rv.length]
    exact hz
  generalize hh : PySem.W.sortingHeap (PySem.W.copyHeap s.heap its) (s.heap.objs.size + 1) its = hS
  have old : ∀ b o, s.heap.get? b = some o → hS.get? b = some o := fun b o e => by
    rw [← hh]
    exact PySem.W.sorting_copy_old e
  have ev2 : PySem.W.EachIs (fun u (d : PyData) => ∃ as, PySem.Reads hS u d as) its (rs.map rowD) := by
    have m : ∀ {us : List Value} {qs : List Row}, PySem.W.EachIs (fun u r => (∃ p, u = Value.ref p ∧ RwAt H (.ref p) r) ∧ ∃ as, PySem.Reads s.heap u (rowD r) as) us qs → PySem.W.EachIs (fun u (d : PyData) => ∃ as, PySem.Reads hS u d as) us (qs.map rowD) := by
      intro us qs z
      induction z with
      | nil => exact .nil
      | cons a _ ih =>
        obtain ⟨_, as, rd⟩ := a
        exact .cons ⟨as, PySem.W.reads_keeps old rd⟩ ih
    exact m ev
  have al : PySem.W.AllAlike (rs.map rowD) := by
    intro d hd d' hd'
    obtain ⟨a, ha, rfl⟩ := List.mem_map.mp hd
    obtain ⟨b, hb, rfl⟩ := List.mem_map.mp hd'
    exact row_alike ((hsh a ha).trans (hsh b hb).symm)
  have so : PySem.W.Sortable (rs.map rowD) := .inl fun d hd => by
    obtain ⟨a, ha, rfl⟩ := List.mem_map.mp hd
    have e := hsh a ha
    cases a with
    | nil => exact nomatch e
    | cons x t => exact ⟨x.d, t.map Cell.d, rfl⟩
  have S : PySem.W.SortsAt X.prog X.w X.A.in1.in1 { s with heap := hS } (PySem.W.dataKind hS (rs.map rowD)) its := PySem.W.SortsAt.data (s := { s with heap := hS }) ev2 al so fun d hd => by
    obtain ⟨a, ha, rfl⟩ := List.mem_map.mp hd
    rw [row_depth]
    show X.A.units + 1 + 1 + 1 < cLine
    omega
  refine PySem.W.sorted_vals (κ := PySem.W.dataKind hS (rs.map rowD)) hl.isList (by rw [hh]; exact S) lit ?_
  have hk : PySem.W.EachIs (fun v r => (PySem.W.dataKind hS (rs.map rowD)).keyOf v = some (rowK r)) its rs := by
    have m : ∀ {us : List Value} {qs : List Row}, (∀ r ∈ qs, r ∈ rs) → PySem.W.EachIs (fun u r => (∃ p, u = Value.ref p ∧ RwAt H (.ref p) r) ∧ ∃ as, PySem.Reads s.heap u (rowD r) as) us qs → PySem.W.EachIs (fun v r => (PySem.W.dataKind hS (rs.map rowD)).keyOf v = some (rowK r)) us qs := by
      intro us qs sub z
      induction z with
      | nil => exact .nil
      | cons a _ ih =>
        obtain ⟨_, as, rd⟩ := a
        exact .cons (PySem.W.dataKind_some al (List.mem_map.mpr ⟨_, sub _ List.mem_cons_self, rfl⟩) (PySem.W.reads_keeps old rd)) (ih fun r hr => sub r (List.mem_cons_of_mem _ hr))
    exact m (fun _ h => h) ev
  have out := PySem.W.sortVals_each (κ := PySem.W.dataKind hS (rs.map rowD)) (rev := false) (R := fun u r => ∃ p, u = Value.ref p ∧ RwAt H (.ref p) r) rowK (ev.mono fun _ _ z => z.1) hk
  obtain ⟨vs', v1, v2⟩ := rows_vals out
  have hlen : (PySem.W.sortVals (PySem.W.dataKind hS (rs.map rowD)) false its its).length = its.length := PySem.W.sortVals_length false rfl
  obtain ⟨ep, he⟩ := sortedAll_at s.heap its (PySem.W.sortVals (PySem.W.dataKind hS (rs.map rowD)) false its its).toArray
  have lv : vs'.length ≤ sizeLine := by
    rw [v1.length, hlen]
    exact lit
  exact ⟨.ref _, upd H (s.heap.objs.size + 1) (.lst vs'), I.laid (t' := s.toks) (fun _ _ => sortedAll_old) (Nat.le_succ _) ⟨lv, _, ep, v1, he⟩, rfl, k _ _ (I.hok.fresh (Nat.le_succ _)) v2⟩
/-- rows.remove(row), a row that is there -/
def rRemR (K : PySem.W.Frag) : V → List V → Hp → VK → Prop := fun x xs H Q => ∃ (l : Addr) (y : V) (r : Row) (vs : List V) (rs : List Row), x = .ref l ∧ xs = [y] ∧ H l = some (.lst vs) ∧ RwAt H y r ∧ RowsAt H vs rs ∧ r ∈ rs ∧
  ∀ vs', RowsAt H vs' (rs.erase r) → vs'.length ≤ vs.length → Q .non (upd H l (.lst vs'))
theorem mt_removeR (hu : X.A.units + 8 < cLine) : MtR X "list.remove" (rRemR X.K) := by
  intro pins s σ H x xs v us Q I rx rxs h
  obtain ⟨l, y, r, vs, rs, rfl, rfl, hl, hy, hrs, mem, k⟩ := h
  cases rx
  cases rxs with
  | cons ry rt =>
    rename_i uy ut
    cases rt
    obtain ⟨z, its, n, rv, el, e0⟩ := I.lstM hl
    obtain ⟨as, rd⟩ := Dp.reads I (rowD r) y uy (hy.dp (K := X.K)) ry
    obtain ⟨bs, rds⟩ := Dp.readsAll I (rs.map rowD) vs its (rows_dp (K := X.K) hrs) rv
    have hd := row_depth r
    have lt := List.idxOf_lt_length_of_mem mem
    have place : SeqAt.dataPlace (rs.map rowD) (rowD r) = some (rs.idxOf r) := by
      unfold SeqAt.dataPlace
      rw [List.findIdx?_map]
      have e : ((fun y => PyData.eqv y (rowD r)) ∘ rowD) = fun q : Row => q == r := by
        funext q
        show PyData.eqv (rowD q) (rowD r) = _
        rw [row_eqv]
        by_cases h : q = r
        · subst h
          rw [beq_self_eq_true, decide_eq_true rfl]
        · rw [beq_eq_false_iff_ne.mpr h, decide_eq_false h]
      rw [e]
      exact List.findIdx?_eq_some_of_exists ⟨r, mem, beq_self_eq_true r⟩
    have lsz : its.toArray.size ≤ sizeLine := by
      rw [List.size_toArray, ← el]
      exact z
    refine SeqAt.remove_list_data (vs := its.toArray) (xs := rs.map rowD) (j := rs.idxOf r) ⟨_, e0, rfl, n, rfl⟩ rds rd (rows_plain rs) (row_plain r) (by omega) place lsz ?_
    have r2 : Vals (vs.eraseIdx (rs.idxOf r)) (its.eraseIdx (rs.idxOf r)) := rv.eraseIdx _
    have le : (vs.eraseIdx (rs.idxOf r)).length ≤ vs.length := by
      rw [List.length_eraseIdx]
      split <;> omega
    refine ⟨.non, _, I.lset (its' := its.eraseIdx (rs.idxOf r)) hl e0 ?_ r2 (Nat.le_trans le z), rfl, k _ ?_ le⟩
    · show its.toArray.eraseIdxIfInBounds _ = (its.eraseIdx _).toArray
      rw [List.eraseIdxIfInBounds_toArray]
    · rw [List.erase_eq_eraseIdx_of_idxOf rfl]
      exact each_erase hrs _
end
end Vm
/-! a, b, *r = t -/
namespace Vm
open PySem PySem.Spec PySem.Calls PyProof.Rows PySem.W L2
section
variable {prog : Program} {w : World} {A : Around} {E : Value → Shared → Prop} {s : Shared}
theorem unpackLast {l : Addr} {items : Array Value} {i : Nat} {Q : List Value → Shared → Prop} (hl : IsTup s.heap l items) (hh : A.handled = none) (hn : i ≤ items.size) (hz : items.size ≤ 16384)
    (h : ∀ (h' : Heap) tk, (∀ b o, s.heap.get? b = some o → h'.get? b = some o) → Q (items.toList.take i ++ [.ref h'.objs.size]) { s with heap := h'.push (seqObj "list" (items.toList.drop i).toArray 0), toks := tk }) :
    wpAny (model prog w) A (unpackItems (.ref l) (i + 1) (some i)) Q E s := by
  have hlt : l ≠ s.heap.objs.size := by obtain ⟨o, ho, _⟩ := hl; exact Nat.ne_of_lt (Heap.lt_size ho)
  have hll : l < s.heap.objs.size := by obtain ⟨o, ho, _⟩ := hl; exact Heap.lt_size ho
  unfold unpackItems
  refine wpAny_bind ?_
  unfold notIterableAtAll
  refine wpAny_bind (wpAny_specialOf hl.typeIs slot_tuple_iter.lookup ?_)
  refine wpAny_pure ?_
  simp only [Bool.false_eq_true, if_false]
  refine wpAny_bind (wpAny_holding (iter_tuple hl ?_))
  refine wpAny_bind (wpAny_holding (draw_tuple hlt i 0 _ _ ⟨_, Heap.get?_push_size _ rfl, rfl, rfl⟩ (hl.push _) (by omega) fun h₁ hit₁ hs₁ => ?_))
  have hl₁ : IsTup h₁ l items := (hl.push _).extBut hs₁.extBut hlt
  rw [Nat.zero_add] at hit₁
  have hit₁' := hit₁
  obtain ⟨oi, hoi, _⟩ := hit₁'
  have hl₁' := hl₁
  obtain ⟨ol, hol, _⟩ := hl₁'
  rw [List.drop_zero]
  have hfl : (items.toList.take i).length = i := by rw [List.length_take, Array.length_toList]; omega
  rw [if_neg (show ¬ ((items.toList.take i).length < i) by rw [hfl]; omega)]
  refine wpAny_bind (wpAny_holding (kun_collect (s := { s with heap := h₁ }) (T := "tuple_iterator") (.inr (.inr (.inr rfl))) (Walks.tuple (A := A.in1) hh s.heap.objs.size l hlt items) (fun j u st => st.1.typeIs) (k := i) (by omega) ⟨hit₁, hl₁⟩ (Heap.lt_size hoi) (Heap.lt_size hol) (fun h₂ tk hk => ?_) (by rw [sizeLine_eq]; omega)))
  have hrl : (items.toList.drop i).length = items.size - i := by rw [List.length_drop, Array.length_toList]
  have hmid : (items.toList.drop i).length - (i + 1 - 1 - i) = (items.toList.drop i).length := by omega
  show wpAny _ _ (if (items.toList.drop i).length < i + 1 - 1 - i then _ else _) _ _ _
  rw [if_neg (by omega)]
  show wpAny _ _ (newList ((items.toList.drop i).take ((items.toList.drop i).length - (i + 1 - 1 - i))) >>= fun d => pure (items.toList.take i ++ [d] ++ (items.toList.drop i).drop ((items.toList.drop i).length - (i + 1 - 1 - i)))) _ _ _
  rw [hmid, List.take_length, List.drop_length]
  have he : Heap.ExtBut s.heap.objs.size s.heap h₂ := fun b o hb e => hk b o hb (hs₁.extBut b o hb (Heap.get?_push_of_some _ e))
  have hold : ∀ b o, s.heap.get? b = some o → h₂.get? b = some o := fun b o e => he b o (Nat.ne_of_lt (Heap.lt_size e)) e
  refine wpAny_bind (wpAny_newList ?_ (by rw [hrl, sizeLine_eq]; omega))
  refine wpAny_pure ?_
  rw [List.append_nil]
  exact h h₂ tk hold
end
section
variable {X : Cx} {pos : Pos}
/-- a, b, .., *r = a tuple: n names ahead of the starred one -/
def gStar (K : PySem.W.Frag) (n : Nat) (t : TGs) : TG := fun v σ H Q => ∃ a xs, v = .ref a ∧ SqT K H a xs ∧ n ≤ xs.length ∧ xs.length ≤ 16384 ∧ ∀ D, H D = none → t (xs.take n ++ [.ref D]) σ (upd H D (.lst (xs.drop n))) Q
theorem vals_take : ∀ {xs : List V} {us : List Value} (n : Nat), Vals xs us → Vals (xs.take n) (us.take n)
  | _, _, 0, _ => .nil
  | _, _, _ + 1, .nil => .nil
  | _, _, n + 1, .cons r t => .cons r (vals_take n t)
theorem vals_drop : ∀ {xs : List V} {us : List Value} (n : Nat), Vals xs us → Vals (xs.drop n) (us.drop n)
  | _, _, 0, h => h
  | _, _, _ + 1, .nil => .nil
  | _, _, n + 1, .cons r t => vals_drop n t
theorem pgs_star {e : Expr} {p : Pos} {t : TG} (h1 : PG X e t) : PGs X [.Starred e p] (gCons t gNil) := by
  refine ⟨fun pins s σ H vs us Q I r h => ?_⟩
  obtain ⟨v, vr, e1, h⟩ := h
  subst e1
  cases r with
  | cons r rr =>
    show wpAny _ _ (assignInOrder [assign e X.env] _) _ _ _
    refine assignInOrder_cons (thn (h1.run pins s σ H _ _ _ I r h) fun _ s1 ⟨σ1, H1, I1, q1⟩ => ?_)
    obtain ⟨e2, q2⟩ := q1
    subst e2
    cases rr
    exact assignInOrder_nil ⟨σ1, H1, I1, q2⟩
theorem pg_star {es : List Expr} {k : Nat} {t : TGs} {n : Nat} (hc : X.calm = true) (h : PGs X es t)
    (hn : (assignEach es X.env).length = n + 1 := by rfl) (hst : (assignEach es X.env).findIdx? (·.1) = some n := by rfl) : PG X (.Tuple es k pos) (gStar X.K n t) := by
  refine ⟨fun pins s σ H v u Q I r hw => ?_⟩
  obtain ⟨a, xs, e1, hq, hl, hz, hw⟩ := hw
  subst e1
  cases r
  obtain ⟨its, rv, ht, _⟩ := I.tuple hq
  have lx := rv.length
  rw [assign_Tuple]
  refine wpAny_bind (wpAny_standAt ?_)
  unfold unpack
  rw [hn, hst]
  refine wpAny_bind (wpAny_holding (unpackLast ht (I.ok.hd hc) (by rw [List.size_toArray]; omega) (by rw [List.size_toArray]; omega) fun h' tk hx => ?_))
  have I1 : Inv X pins σ H { s with heap := h', toks := tk } := I.kept (t' := tk) hx
  have r2 : Vals (xs.drop n) (its.drop n) := vals_drop n rv
  have lz : (xs.drop n).length ≤ sizeLine := by
    rw [List.length_drop, sizeLine_eq]
    omega
  have I2 : Inv X pins σ (upd H h'.objs.size (.lst (xs.drop n))) { s with heap := h'.push (seqObj "list" (its.drop n).toArray 0), toks := tk } :=
    I1.laid (t' := tk) (fun b o e => Heap.get?_push_of_some _ e) (Nat.le_refl _) ⟨lz, its.drop n, 0, r2, Heap.get?_push_size _ rfl⟩
  have tv : Vals [V.ref h'.objs.size] [Value.ref h'.objs.size] := .cons rfl .nil
  have fin := h.run pins _ σ _ _ (its.take n ++ [.ref h'.objs.size]) Q I2 ((vals_take n rv).append tv) (hw _ (I1.hok.fresh (Nat.le_refl _)))
  exact fin
end
end Vm
/-! d.get(text) of a written dict; a text == any data -/
namespace Vm
open PySem PySem.Spec PyProof.Rows L2
section
variable {X : Cx} {o e : Expr} {apos cpos : Pos} {td ty : TE} {d : Addr} {es : Array DictEntry} {n : Nat}
def tKGet (K : PySem.W.Frag) (d : Addr) (td ty : TE) : TE := fun σ H Q => td σ H fun x H1 => x = .ref d ∧ ty σ H1 fun y H2 => ∃ (z : Str) (r : Option Value) (v : V), y = .str z ∧ PySem.W.nsIn K d z = some r ∧ RelV v (r.getD .none) ∧ Q v H2
theorem pe_kget (D : KDict X.K X.w d es n) (ho : PE X o td) (he : PE X e ty) (m : M1 X o "get" apos e cpos) : PE X (.Call (.Attribute o "get" apos) [e] [] cpos) (tKGet X.K d td ty) := by
  refine ⟨fun pins s σ H Q I h => ?_⟩
  refine wpAny_Call_method m.base m.few m.line PySem.F.plainAttrs_dict PySem.F.slot_dict_get PySem.F.type_dict_get (thn (ho.run pins s σ H _ I h) fun u s1 ⟨x, H1, I1, rx, ex, q1⟩ => ?_)
  subst ex
  obtain rfl : u = Value.ref d := rx
  have hm := PySem.W.mapOf_K (prog := X.prog) (w := X.w) I1.kIn D.at_ D.lit
  refine ⟨hm.typeIs, fun a e => ⟨_, I1.kIn _ _ (Value.ref.inj e ▸ D.at_), rfl⟩, ?_⟩
  rw [m.trees]
  refine Calls.callWith_builtin rfl (Calls.evalArgs_plain (Calls.spliced_cons (thn (he.run pins s1 σ H1 _ I1 q1) fun iv s2 ⟨y, H2, I2, ry, z, r, v, ey, en, rv, q2⟩ => Calls.spliced_nil ?_)))
  subst ey
  obtain ⟨t, rfl⟩ := (show ∃ t, iv = Value.str z t from ry)
  have hm2 := PySem.W.mapOf_K (prog := X.prog) (w := X.w) I2.kIn D.at_ D.lit
  refine call_meetsIn PySem.F.slot_dict_get hm2.typeIs PySem.F.entry_dict_get (PySem.F.args_dict_get_2 _ _) (meets_dict_get (PySem.strKind X.prog X.w) d (PySem.strKind_is X.prog X.w z t) D.low) ⟨_, hm2, v, H2, I2.tok _, ?_, q2⟩
  rw [PySem.W.find_K D.at_ en]
  exact rv
end
end Vm
namespace Vm
open PySem SeqAt MeetsSeq
open AutoSeq1 (wpAny_loadPart')
section
variable {A : Around} {s : Shared}
theorem rc_str_dict {l : Addr} {dd : Option Addr} {es : Array DictEntry} {n : Nat} {sl : Array (Option Value)} (b : Str) (u : Tok) (ho : s.heap.get? l = some (dob dd es n sl)) (hu : A.units < cLine) : RcAt A s (.str b u) (.ref l) false := fun prog w E Q h =>
  rc_eq_decline_or (k := false) (typeIs_str s b u) ⟨_, ho, rfl⟩ (by decide) F.sub_dict_str F.slot_str_eq F.slot_dict_eq_refl
    (fun _ q => call_meets F.slot_str_eq (typeIs_str s b u) F.entry_str_eq (F.args_str_eq_2 _ _) (str_no_dict b u l dd es n sl) ⟨ho, q⟩)
    (fun _ q => call_meets F.slot_dict_eq_refl ⟨_, ho, rfl⟩ F.entry_dict_eq (F.args_dict_eq_2 _ _) (dict_no_str l dd es n sl b u) ⟨ho, q⟩)
    (fun _ q => wpAny_of_eq (rfl : isSame (.str b u) (.ref l) = pure false) q) (.inr hu) h
theorem rc_str_dict' {l : Addr} {o : Obj} {es : Array DictEntry} {n : Nat} (b : Str) (u : Tok) (ho : s.heap.get? l = some o) (hc : o.cls = .type "dict") (hd : o.data = .dict es n) (hu : A.units < cLine) : RcAt A s (.str b u) (.ref l) false := by
  obtain ⟨c, dd, dt, sl⟩ := o
  dsimp only at hc hd
  subst hc hd
  exact rc_str_dict b u ho hu
end
open L2
/-- a text beside any data -/
theorem Dt.strRc {X : Cx} {pins : List (Addr × Obj)} {σ : St} {H : Hp} {s : Shared} {A : Around} (I : Inv X pins σ H s) {v : V} {t : Tr} {n : Nat} {bs : List Addr} {u : Value} (d : Dt X.K H v t n bs) (r : RelV v u) (x : Str) (k : Tok) (hu : A.units < cLine) : RcAt A s (.str x k) u (isS x t) := by
  cases d with
  | non =>
    cases r
    exact .str_none x k
  | bl b =>
    cases r
    exact .str_bool x k b
  | int h =>
    obtain ⟨t, rfl⟩ := r
    exact .str_int x k _ t
  | @str _ y h hz =>
    obtain ⟨t, rfl⟩ := r
    have e : isS x (.str y) = (x == y) := by
      show (y == x) = (x == y)
      exact Bool.beq_comm
    rw [e]
    exact .str_str x k y t
  | lst h rs na =>
    cases r
    obtain ⟨its, rv, pl, _⟩ := I.list (.inl (.inl h))
    exact .str_list x k pl.isList hu
  | emp h =>
    cases r
    obtain ⟨its, rv, pl, _⟩ := I.tuple (.inr h)
    exact .str_tuple x k pl hu
  | tup h nd rs na =>
    cases r
    obtain ⟨its, rv, pl, _⟩ := I.tuple (.inl (.inr ⟨_, h⟩))
    exact .str_tuple x k pl hu
  | dct h kf rs na =>
    cases r
    obtain ⟨z, hs, vs, kv, o, es, ep, e, ex, dd, _⟩ := I.hok _ _ h
    exact rc_str_dict' x k e ex.1 dd hu
section
variable {X : Cx}
/-- a text == any data -/
def rEqSD (K : PySem.W.Frag) : R2 := fun x y H Q => ∃ (z : Str) (t : Tr) (n : Nat) (bs : List Addr), x = .str z ∧ Dt K H y t n bs ∧ Q (.bl (isS z t)) H
theorem op_eqSD (hu : X.A.units < cLine) : OpR X (compareOp .Eq) (rEqSD X.K) := by
  intro pins s σ H x y v u Q I rx ry h
  obtain ⟨z, t, n, bs, rfl, d, q⟩ := h
  obtain ⟨k, rfl⟩ := rx
  exact d.strRc I ry z k hu X.prog X.w _ _ ⟨.bl _, H, I, rfl, q⟩
end
end Vm
/-! table_named, _taken_and_put, _clashes -/
namespace Vm
open PySem L2
abbrev sNamed : Stmt := top 16
abbrev sClashes : Stmt := top 27
abbrev sTaken : Stmt := top 28
/-- what a table is -/
structure Ti where
  nm : Str
  ss : List Str
  zs : List Str
  ks : List Str
def Ti.ok (t : Ti) : Prop := Good t.nm t.ss t.zs t.ks
def Ti.cols (t : Ti) : List Str := t.ss ++ t.zs
/-- a value that is this table -/
def TbAt (K : PySem.W.Frag) (H : Hp) (C : Addr) (v : V) (t : Ti) : Prop := ∃ a, v = .ref a ∧ Tb K H C a t.nm t.ss t.zs t.ks
abbrev TbsAt (K : PySem.W.Frag) (H : Hp) (C : Addr) : List V → List Ti → Prop := PySem.W.EachIs (TbAt K H C)
theorem TbAt.same {K : PySem.W.Frag} {H H' : Hp} {C : Addr} {v : V} {t : Ti} (h : TbAt K H C v t) (k : Same H H') : TbAt K H' C v t := let ⟨a, e, h⟩ := h; ⟨a, e, h.same k⟩
theorem tbs_same {K : PySem.W.Frag} {H H' : Hp} {C : Addr} {vs : List V} {ts : List Ti} (h : TbsAt K H C vs ts) (k : Same H H') : TbsAt K H' C vs ts := h.mono fun _ _ z => z.same k
/-- the first table with this name -/
def firstAt (ts : List Ti) (t : Tr) : Option Nat := ts.findIdx? fun ti => isS ti.nm t
def spNamed (K : PySem.W.Frag) (C : Addr) : Sp := fun vs H Q _ => ∃ (v : V) (t : Tr) (n : Nat) (bs : List Addr) (q : Addr) (ws : List V) (ts : List Ti), vs = [v, .ref q] ∧ Dt K H v t n bs ∧ SqT K H q ws ∧ TbsAt K H C ws ts ∧
  (∀ i w H', firstAt ts t = some i → ws[i]? = some w → Same H H' → Q w H') ∧ (firstAt ts t = none → ∀ H', Same H H' → Q .non H')
section
variable {P : Program} {w : World} {K : PySem.W.Frag} {mg : Str → Option Value} {base : Heap} {fNm fNms fCols fKey C CI : Addr}
theorem scNamed : FnScope ["name", "tables", "table"] ["name", "tables"] (defScope sNamed) := ⟨rfl, rfl, rfl, by decide +kernel, rfl, by decide +kernel, by decide +kernel⟩
theorem ok_named {f : Addr} {fd : FuncData} (F : Fun K "table_named" "table_named" sNamed f fd) (U : TxtT K mg C CI fCols fKey) : FnOk P w K mg base CX0 1 f fd ["name", "tables"] (spNamed K C) := by
  refine F.ok scNamed (fun vs H Q E h => ?_) (fun cdv A outer s H vs Q E hr h => ?_)
  · obtain ⟨v, t, n, bs, q, ws, ts, rfl, _⟩ := h
    rfl
  · obtain ⟨v, t, n, bs, q, ws, ts, rfl, d, hq, hts, k1, k2⟩ := h
    refine ⟨_, pss_cons (ps_for PassesOwn.never rfl (pi_tup (pv 1)) (pg_name (i := 2) scNamed.nd rfl (Or.inl rfl))
        (pss_one (ps_if (pt_cmpR (op_eqSD hr.units0) (pe_fld (pv 2) rfl) (pv 0) (nomark _)) (pss_one (ps_ret (pv 2))) pss_nil)))
      (pss_one (ps_ret pe_non)), ?_⟩
    refine ⟨_, rfl, q, rfl, ⟨_, hq⟩, for_tup (K := K) (a := q) (xs := ws) (fun i σ H' => ∃ (v2 : Option V), σ = [some v, some (.ref q), v2] ∧ Same H H' ∧ ∀ j, j < i → ∀ tj, ts[j]? = some tj → isS tj.nm t = false) ⟨none, rfl, Same.refl H, fun j hj => absurd hj (Nat.not_lt_zero _)⟩
        (fun i σ H' _ ⟨_, _, s', _⟩ => sameT s' hq) ?_ ?_⟩
    · rintro i y σ H2 hi ⟨v2, rfl, s2, no⟩
      obtain ⟨ti, et, a, rfl, tb⟩ := each_get hts hi
      obtain ⟨dx, a2, a3, a4, ha, _⟩ := (tb.same s2).ex
      refine ⟨_, rfl, a, C, dx, _, _, rfl, ha, U.cl, U.n1, rfl, _, rfl, _, t, n, bs, rfl, d.keep fun b _ o e => s2 b o e, ?_⟩
      refine ⟨_, rfl, ?_⟩
      cases e : isS ti.nm t with
      | true =>
        refine iteT ⟨_, rfl, k1 i _ H2 ?_ hi s2⟩
        unfold firstAt
        obtain ⟨lt, e2⟩ := List.getElem?_eq_some_iff.mp et
        refine List.findIdx?_eq_some_iff_getElem.mpr ⟨lt, by rw [e2]; exact e, fun j hj => ?_⟩
        rw [no j hj _ (List.getElem?_eq_getElem (Nat.lt_trans hj lt))]
        decide
      | false =>
        refine iteF ⟨_, rfl, s2, fun j hj tj ej => ?_⟩
        rcases Nat.lt_succ_iff_lt_or_eq.mp hj with lt | eq
        · exact no j lt tj ej
        · rw [eq, et] at ej
          cases ej
          exact e
    · rintro σ H2 ⟨v2, rfl, s2, no⟩
      refine k2 ?_ H2 s2
      unfold firstAt
      refine List.findIdx?_eq_none_iff.mpr fun x hx => ?_
      obtain ⟨j, hj, e⟩ := List.mem_iff_getElem.mp hx
      have := no j (by rw [hts.length]; exact hj) x (by rw [List.getElem?_eq_getElem hj, e])
      simpa using this
end
/-! _taken_and_put -/
def insS : Str := "insert"
def takenR {α : Type} (kd : Str) (ws : List α) : List α := if kd = insS then [] else ws.take 1
def putR {α : Type} (kd : Str) (ws : List α) : List α := if kd = insS then ws else ws.drop 1
def spTaken (K : PySem.W.Frag) : Sp := fun vs H Q _ => ∃ (p : Addr) (kd : Str) (v2 : V) (ws : List V), vs = [.ref p] ∧ SqT K H p (.str kd :: v2 :: ws) ∧ ws.length ≤ 8 ∧
  ∀ (q l1 l2 : Addr) (H' : Hp), Same H H' → SqT K H' q [.ref l1, .ref l2] → H' l1 = some (.lst (takenR kd ws)) → H' l2 = some (.lst (putR kd ws)) → H l1 = none → H l2 = none → l1 ≠ l2 → Q (.ref q) H'
section
variable {P : Program} {w : World} {K : PySem.W.Frag} {mg : Str → Option Value} {base : Heap} {fNm fNms fCols fKey C CI fCl : Addr}
theorem scTaken : FnScope ["change", "kind", "_", "rows"] ["change"] (defScope sTaken) := ⟨rfl, rfl, rfl, by decide +kernel, rfl, by decide +kernel, by decide +kernel⟩
theorem ok_taken {f : Addr} {fd : FuncData} (F : Fun K "_taken_and_put" "_taken_and_put" sTaken f fd) : FnOk P w K mg base CX0 1 f fd ["change"] (spTaken K) := by
  refine F.ok scTaken (fun vs H Q E h => ?_) (fun cdv A outer s H vs Q E hr h => ?_)
  · obtain ⟨p, kd, v2, ws, rfl, _⟩ := h
    rfl
  · obtain ⟨p, kd, v2, ws, rfl, hp, few, k⟩ := h
    refine ⟨_, pss_cons (ps_asg (pv 0) (pg_star (n := 2) rfl (pgs_cons (pg_name (i := 1) scTaken.nd rfl (Or.inl rfl)) (pgs_cons (pg_name (i := 2) scTaken.nd rfl (Or.inl rfl)) (pgs_star (pg_name (i := 3) scTaken.nd rfl (Or.inl rfl)))))))
      (pss_cons (ps_if (pt_cmpR op_eq (pv 1) pe_str (nomark _)) (pss_one (ps_ret (pe_tup (pa_cons (pe_lst pa_nil) (pa_cons (pv 3) pa_nil))))) pss_nil)
      (pss_one (ps_ret (pe_tup (pa_cons (pe_slice sl_list (pv 3) po_none (po_some pe_int)) (pa_cons (pe_slice sl_list (pv 3) (po_some pe_int) po_none) pa_nil)))))), ?_⟩
    have big : sizeLine > 1000 := by decide
    refine ⟨_, rfl, p, _, rfl, hp, by show 2 ≤ ws.length + 2; omega, by show ws.length + 2 ≤ 16384; omega, fun D hD => ?_⟩
    have sD := same_upd (o := .lst ws) hD
    have eD : upd H D (.lst ws) D = some (.lst ws) := upd_same
    refine ⟨_, _, rfl, _, _, rfl, _, _, rfl, rfl, ?_⟩
    refine ⟨_, rfl, rfl, _, rfl, ?_⟩
    refine ite2 (fun e => ?_) (fun e => ?_)
    · have e1 : kd = insS := V.str.inj (of_decide_eq_true e)
      refine ⟨by show 0 ≤ sizeLine; omega, fun l hl => ⟨_, rfl, by show 2 ≤ sizeLine; omega, fun q hq => ?_⟩⟩
      have sl := same_upd (o := .lst []) hl
      have sq := same_upd (o := .tup [.ref l, .ref D]) hq
      have lD : l ≠ D := fun z => by
        have hl' : upd H D (.lst ws) D = none := z ▸ hl
        rw [eD] at hl'
        cases hl'
      have hl0 : H l = none := sD.free hl
      have fin := k q l D _ ((sD.trans sl).trans sq) (SqT.of upd_same) ?_ ?_ hl0 hD lD
      · exact fin
      · unfold takenR
        rw [if_pos e1]
        exact sq _ _ upd_same
      · unfold putR
        rw [if_pos e1]
        exact sq _ _ (sl _ _ eD)
    · have e1 : ¬ kd = insS := fun z => e (decide_eq_true (by rw [z]; rfl))
      refine ⟨_, rfl, _, rfl, D, _, rfl, SqL.of eD, fun l hl => ⟨_, rfl, _, rfl, D, _, rfl, SqL.of (same_upd hl _ _ eD), fun l2 hl2 => ⟨by show 2 ≤ sizeLine; omega, fun q hq => ?_⟩⟩⟩
      have c1 : cutV ws none (some ((1 : Nat) : Int)) = ws.take 1 := cut_take ws 1
      have c2 : cutV ws (some ((1 : Nat) : Int)) none = ws.drop 1 := cut_drop ws 1
      have sl := same_upd (o := .lst (cutV ws none (some ((1 : Nat) : Int)))) hl
      have sl2 := same_upd (o := .lst (cutV ws (some ((1 : Nat) : Int)) none)) hl2
      have l12 : l ≠ l2 := fun z => by
        rw [← z, upd_same] at hl2
        cases hl2
      have s3 := (sD.trans sl).trans sl2
      have fin := k q l l2 _ (s3.trans (same_upd hq)) (SqT.of upd_same) ?_ ?_ (sD.free hl) ((sD.trans sl).free hl2) l12
      · exact fin
      · unfold takenR
        rw [if_neg e1, ← c1]
        exact same_upd hq _ _ (sl2 _ _ upd_same)
      · unfold putR
        rw [if_neg e1, ← c2]
        exact same_upd hq _ _ upd_same
end
/-! _clashes -/
def clashR (ti : Ti) (r o : Row) : Bool := clashB ti.cols ti.ks (r.map Cell.v) (o.map Cell.v)
/-- a row's form -/
def okC : Bool → Cell → Bool
  | true, .s x => nmS x
  | false, .i _ => true
  | _, _ => false
structure Row.ok (ti : Ti) (r : Row) : Prop where
  len : r.length = ti.ss.length + ti.zs.length
  cell : ∀ i c, r[i]? = some c → okC (decide (i < ti.ss.length)) c = true
theorem ok_scal {ti : Ti} {r o : Row} (h1 : Row.ok ti r) (h2 : Row.ok ti o) (i : Nat) (x y : V) (e1 : (r.map Cell.v)[i]? = some x) (e2 : (o.map Cell.v)[i]? = some y) : scal x y = true := by
  rw [List.getElem?_map] at e1 e2
  cases a : r[i]? with
  | none => rw [a] at e1; cases e1
  | some c =>
    cases b : o[i]? with
    | none => rw [b] at e2; cases e2
    | some d =>
      rw [a] at e1
      rw [b] at e2
      have p := h1.cell i c a
      have q := h2.cell i d b
      obtain rfl := Option.some.inj e1
      obtain rfl := Option.some.inj e2
      cases decide (i < ti.ss.length) <;> cases c <;> cases d <;> first | rfl | exact nomatch p | exact nomatch q
def spClashes (K : PySem.W.Frag) (C : Addr) : Sp := fun vs H Q _ => ∃ (a : Addr) (x : V) (q : Addr) (ti : Ti) (r : Row) (ws : List V) (rs : List Row), vs = [.ref a, x, .ref q] ∧ Tb K H C a ti.nm ti.ss ti.zs ti.ks ∧ RwAt H x r ∧ SqL K H q ws ∧ RowsAt H ws rs ∧
  Row.ok ti r ∧ (∀ o ∈ rs, Row.ok ti o) ∧ rs.length ≤ 100 ∧ ∀ H', Same H H' → Q (.bl (rs.any (clashR ti r))) H'
section
variable {P : Program} {w : World} {K : PySem.W.Frag} {mg : Str → Option Value} {base : Heap} {fNm fNms fCols fKey C CI fC : Addr}
theorem scClashes : FnScope ["table", "row", "others", "other"] ["table", "row", "others"] (defScope sClashes) := ⟨rfl, rfl, rfl, by decide +kernel, rfl, by decide +kernel, by decide +kernel⟩
theorem ok_clashes {f : Addr} {fd fdC : FuncData} (F : Fun K "_clashes" "_clashes" sClashes f fd) (U : TxtT K mg C CI fCols fKey) (any : mg "any" = none) (mC : Meth K C "clash" fC) (GC : FnOk P w K mg base CX0 3 fC fdC ["self", "one", "other"] (spClash K C)) (bC : Binds K fdC ["self", "one", "other"] []) :
    FnOk P w K mg base CX0 4 f fd ["table", "row", "others"] (spClashes K C) := by
  refine F.ok scClashes (fun vs H Q E h => ?_) (fun cdv A outer s H vs Q E hr h => ?_)
  · obtain ⟨a, x, q, ti, r, ws, rs, rfl, _⟩ := h
    rfl
  · obtain ⟨a, x, q, ti, r, ws, rs, rfl, tb, hx, hq, hrs, o1, o2, few, k⟩ := h
    refine ⟨_, pss_one (ps_ret (pe_callB (cr_any rfl) (by rfl) any (by decide +kernel) (pa_cons (pe_lc (own := [("other", 3)]) (g := gName 3) (tt := tYes) rfl scClashes.nd (pi_list (pv 2))
            (blkOk_by (N := ["table", "row", "others", "other"]) (sc := defScope sClashes) (by decide +kernel)) (fun _ _ _ _ _ => pg_name (i := 3) scClashes.nd rfl (Or.inl rfl)) (fun _ _ _ _ _ => pts_nil)
            (fun _ _ _ _ _ => pe_meth (pv 0) U.cl mC GC hr bC .nil pass0 (pa_cons (pv 1) (pa_cons (pv 3) pa_nil)))) pa_nil))), ?_⟩
    have big : sizeLine > 1000 := by decide
    obtain ⟨dx, a2, a3, a4, ha, _⟩ := tb.ex
    refine ⟨_, rfl, q, rfl, ⟨_, hq⟩, fun D hD => ?_⟩
    refine lc_list (K := K) (a := q) (xs := ws) (fun i H' => Same H H' ∧ H' D = some (.lst (((rs.take i).map (clashR ti r)).map V.bl))) ⟨same_upd hD, upd_same⟩ (fun i H' _ z => z.1.seq hq) ?_ ?_
    · rintro i y H2 hi ⟨s2, e2⟩
      refine ⟨rfl, ?_⟩
      dsimp only [tYes]
      rw [if_pos rfl]
      obtain ⟨o, eo, ho⟩ := each_get hrs hi
      have mem := List.mem_of_getElem? eo
      obtain ⟨p1, ob1, rfl, h1, d1⟩ := hx
      obtain ⟨p2, ob2, rfl, h2, d2⟩ := ho
      refine ⟨_, rfl, a, dx, _, rfl, s2 _ _ ha, rfl, _, rfl, _, rfl, a, p1, p2, ti.nm, ti.ss, ti.zs, ti.ks, r.map Cell.v, o.map Cell.v, rfl, tb.same s2, .inl (.inr ⟨_, s2 _ _ h1⟩), .inl (.inr ⟨_, s2 _ _ h2⟩), by rw [List.length_map]; exact o1.len, by rw [List.length_map]; exact (o2 o mem).len, ok_scal o1 (o2 o mem), fun H3 s3 => ?_⟩
      refine ⟨_, s3 _ _ e2, ?_, fun b u e => ?_, ?_⟩
      · rw [List.length_map, List.length_map, List.length_take]
        omega
      · rw [upd_ne (ne_of_none e hD)]
        exact s3 b u (s2 b u e)
      · rw [upd_same, List.take_add_one, eo]
        simp [clashR, Ti.cols]
    · rintro H2 ⟨s2, e2⟩
      rw [hrs.length, List.take_length] at e2
      refine ⟨D, _, rfl, SqL.of e2, ?_⟩
      rw [List.any_map]
      exact k H2 s2
end
end Vm
/-! is_possible_in, rows_after -/
namespace Vm
open PySem L2
abbrev sPossIn : Stmt := top 25
abbrev sAfter : Stmt := top 26
section
variable {α β : Type} {R : α → β → Prop}
theorem each_take : ∀ {a : List α} {b : List β} (n : Nat), PySem.W.EachIs R a b → PySem.W.EachIs R (a.take n) (b.take n)
  | _, _, 0, _ => .nil
  | _, _, _ + 1, .nil => .nil
  | _, _, n + 1, .cons h t => .cons h (each_take n t)
theorem each_drop : ∀ {a : List α} {b : List β} (n : Nat), PySem.W.EachIs R a b → PySem.W.EachIs R (a.drop n) (b.drop n)
  | _, _, 0, h => h
  | _, _, _ + 1, .nil => .nil
  | _, _, n + 1, .cons h t => each_drop n t
theorem each_taken {a : List α} {b : List β} (kd : Str) (h : PySem.W.EachIs R a b) : PySem.W.EachIs R (takenR kd a) (takenR kd b) := by
  unfold takenR
  by_cases e : kd = insS
  · rw [if_pos e, if_pos e]
    exact .nil
  · rw [if_neg e, if_neg e]
    exact each_take 1 h
theorem each_put {a : List α} {b : List β} (kd : Str) (h : PySem.W.EachIs R a b) : PySem.W.EachIs R (putR kd a) (putR kd b) := by
  unfold putR
  by_cases e : kd = insS
  · rw [if_pos e, if_pos e]
    exact h
  · rw [if_neg e, if_neg e]
    exact each_drop 1 h
end
theorem taken_sub {α : Type} {kd : Str} {ws : List α} {x : α} (h : x ∈ takenR kd ws) : x ∈ ws := by
  unfold takenR at h
  split at h
  · cases h
  · exact List.mem_of_mem_take h
theorem put_sub {α : Type} {kd : Str} {ws : List α} {x : α} (h : x ∈ putR kd ws) : x ∈ ws := by
  unfold putR at h
  split at h
  · exact h
  · exact List.mem_of_mem_drop h
theorem taken_len {α : Type} (kd : Str) (ws : List α) : (takenR kd ws).length ≤ ws.length := by
  unfold takenR
  split
  · exact Nat.zero_le _
  · rw [List.length_take]
    omega
theorem put_len {α : Type} (kd : Str) (ws : List α) : (putR kd ws).length ≤ ws.length := by
  unfold putR
  split
  · exact Nat.le_refl _
  · rw [List.length_drop]
    omega
/-- the rows that are left -/
def leftR (kd : Str) (ws rs : List Row) : List Row := rs.filter fun o => !decide (o ∈ takenR kd ws)
def possR (ti : Ti) (kd : Str) (ws rs : List Row) : Bool := (takenR kd ws).all (fun r => decide (r ∈ rs)) && !((putR kd ws).any fun r => decide (r ∈ rs) || (leftR kd ws rs).any (clashR ti r))
def afterR (kd : Str) (ws rs : List Row) : List Row := sortR (leftR kd ws rs ++ putR kd ws)
theorem filter_next {α : Type} {p : α → Bool} {l : List α} {i : Nat} {x : α} (h : l[i]? = some x) : (l.take (i + 1)).filter p = if p x = true then (l.take i).filter p ++ [x] else (l.take i).filter p := by
  rw [List.take_add_one, h, List.filter_append]
  by_cases e : p x = true
  · rw [if_pos e]
    simp [e]
  · rw [if_neg e]
    simp [e]
theorem each_filter {H : Hp} : ∀ {xs : List V} {rs : List Row} (p : Row → Bool), RowsAt H xs rs → ∃ ys, RowsAt H ys (rs.filter p)
  | _, _, _, .nil => ⟨[], .nil⟩
  | x :: _, r :: _, p, .cons h t => by
    obtain ⟨ys, q⟩ := each_filter p t
    by_cases e : p r = true
    · rw [List.filter_cons, if_pos e]
      exact ⟨_, .cons h q⟩
    · rw [List.filter_cons, if_neg e]
      exact ⟨_, q⟩
def spPossIn (K : PySem.W.Frag) (C : Addr) : Sp := fun vs H Q _ => ∃ (p a q : Addr) (kd : Str) (v2 : V) (xs ys : List V) (ws rs : List Row) (ti : Ti), vs = [.ref p, .ref a, .ref q] ∧ SqT K H p (.str kd :: v2 :: xs) ∧ RowsAt H xs ws ∧ Tb K H C a ti.nm ti.ss ti.zs ti.ks ∧ SqT K H q ys ∧ RowsAt H ys rs ∧
  (∀ r ∈ ws, Row.ok ti r) ∧ (∀ r ∈ rs, Row.ok ti r) ∧ ws.length ≤ 8 ∧ rs.length ≤ 100 ∧ ∀ H', Same H H' → Q (.bl (possR ti kd ws rs)) H'
section
variable {P : Program} {w : World} {K : PySem.W.Frag} {mg : Str → Option Value} {base : Heap} {fNm fNms fCols fKey C CI fTk fCl : Addr}
theorem scPossIn : FnScope ["change", "table", "rows", "taken", "put", "left", "row"] ["change", "table", "rows"] (defScope sPossIn) := ⟨rfl, rfl, rfl, by decide +kernel, rfl, by decide +kernel, by decide +kernel⟩
theorem ok_possin {f : Addr} {fd fdT fdC : FuncData} (F : Fun K "is_possible_in" "is_possible_in" sPossIn f fd) (any : mg "any" = none) (all : mg "all" = none)
    (cT : Calls K mg "_taken_and_put" fTk) (GT : FnOk P w K mg base CX0 1 fTk fdT ["change"] (spTaken K)) (bT : Binds K fdT ["change"] [])
    (cC : Calls K mg "_clashes" fCl) (GC : FnOk P w K mg base CX0 4 fCl fdC ["table", "row", "others"] (spClashes K C)) (bC : Binds K fdC ["table", "row", "others"] []) :
    FnOk P w K mg base CX0 5 f fd ["change", "table", "rows"] (spPossIn K C) := by
  refine F.ok scPossIn (fun vs H Q E h => ?_) (fun cdv A outer s H vs Q E hr h => ?_)
  · obtain ⟨p, a, q, kd, v2, xs, ys, ws, rs, ti, rfl, _⟩ := h
    rfl
  · obtain ⟨p, a, q, kd, v2, xs, ys, ws, rs, ti, rfl, hp, hws, tb, hq, hrs, o1, o2, l1, l2, k⟩ := h
    have hr1 : Room 1 _ := hr.mono (by decide)
    have hu : (A.deeper (PyProof.Rows.envOfC "is_possible_in" (defScope sPossIn) s.heap.objs.size f cdv)).units + 8 < cLine := by
      have := hr.units
      omega
    refine ⟨_, pss_cons (ps_asg (pe_call GT hr1 rfl cT.g cT.k bT .nil pass0 (pa_cons (pv 0) pa_nil)) (pg_tup rfl (pgs_cons (pg_name (i := 3) scPossIn.nd rfl (Or.inr rfl)) (pgs_cons (pg_name (i := 4) scPossIn.nd rfl (Or.inl rfl)) pgs_nil))))
      (pss_cons (ps_set (i := 5) scPossIn.nd rfl (Or.inr rfl) (pe_lc (own := [("row", 6)]) (g := gName 6) (tt := tTest (tOp (rInR K true) (tVar 6) (tVar 3))) (te := tVar 6) rfl scPossIn.nd (pi_tup (pv 2))
          (blkOk_by (N := ["change", "table", "rows", "taken", "put", "left", "row"]) (sc := defScope sPossIn) (by decide +kernel)) (fun _ _ _ _ _ => pg_name (i := 6) scPossIn.nd rfl (Or.inl rfl))
          (fun _ _ _ _ _ => by exact (pts_one (pt_cmpR (op_notInR hu) (pv 6) (pv 3) (by rfl)))) (fun _ _ _ _ _ => by exact (pv 6))))
      (pss_cons (ps_if (pt_not (pt_val (pe_callB (cr_all rfl) (by rfl) all (by decide +kernel) (pa_cons (pe_lc (own := [("row", 6)]) (g := gName 6) (tt := tYes) (te := tOp (rInR K false) (tVar 6) (tVar 2)) rfl scPossIn.nd (pi_list (pv 3))
          (blkOk_by (N := ["change", "table", "rows", "taken", "put", "left", "row"]) (sc := defScope sPossIn) (by decide +kernel)) (fun _ _ _ _ _ => pg_name (i := 6) scPossIn.nd rfl (Or.inl rfl)) (fun _ _ _ _ _ => pts_nil)
          (fun _ _ _ _ _ => by exact (pe_cmpR (op_inR hu) (pv 6) (pv 2) (by rfl)))) pa_nil)))) (pss_one (ps_ret pe_bl)) pss_nil)
      (pss_one (ps_ret (pe_not (pe_callB (cr_any rfl) (by rfl) any (by decide +kernel) (pa_cons (pe_lc (own := [("row", 6)]) (g := gName 6) (tt := tYes) (te := tOrV (tOp (rInR K false) (tVar 6) (tVar 2)) (tCall (spClashes K C) [] E0 (tCons (tVar 1) (tCons (tVar 6) (tCons (tVar 5) tNil))))) rfl scPossIn.nd (pi_list (pv 4))
          (blkOk_by (N := ["change", "table", "rows", "taken", "put", "left", "row"]) (sc := defScope sPossIn) (by decide +kernel)) (fun _ _ _ _ _ => pg_name (i := 6) scPossIn.nd rfl (Or.inl rfl)) (fun _ _ _ _ _ => pts_nil)
          (fun _ _ _ _ _ => by exact (pe_or (pe_cmpR (op_inR hu) (pv 6) (pv 2) (by rfl)) (pe_one (pe_call GC hr rfl cC.g cC.k bC .nil pass0 (pa_cons (pv 1) (pa_cons (pv 6) (pa_cons (pv 5) pa_nil)))))))) pa_nil))))))), ?_⟩
    have big : sizeLine > 1000 := by decide
    have lx : xs.length = ws.length := hws.length
    refine ⟨_, rfl, p, kd, v2, xs, rfl, hp, by omega, fun q1 la lb H1 s1 hq1 ea eb _ _ _ => ?_⟩
    refine ⟨q1, _, rfl, hq1, rfl, _, _, rfl, _, _, rfl, rfl, ?_⟩
    have tk := each_taken kd (RowsAt.keep (Fz.of_same s1) hws)
    have pt := each_put kd (RowsAt.keep (Fz.of_same s1) hws)
    have rs1 := RowsAt.keep (Fz.of_same s1) hrs
    have hq1 := sameT s1 hq
    have tb1 := tb.same s1
    refine ⟨_, rfl, q, rfl, ⟨_, hq1⟩, fun D hD => ?_⟩
    -- left
    refine lc_tup (K := K) (a := q) (xs := ys) (fun i H' => Same H1 H' ∧ ∃ zs, H' D = some (.lst zs) ∧ RowsAt H1 zs ((rs.take i).filter fun o => !decide (o ∈ takenR kd ws)) ∧ zs.length ≤ i) ⟨same_upd hD, [], upd_same, .nil, Nat.le_refl _⟩ (fun i H' _ z => sameT z.1 hq1) ?_ ?_
    · rintro i y H2 hi ⟨s2, zs, e2, z2, lz⟩
      refine ⟨rfl, ?_⟩
      obtain ⟨o, eo, ho⟩ := each_get rs1 hi
      have li : i < ys.length := (List.getElem?_eq_some_iff.mp hi).1
      have ly : ys.length = rs.length := hrs.length
      refine ⟨_, rfl, _, rfl, o, la, _, _, ho.keep (Fz.of_same s2), rfl, .inr (SqL.of (s2 _ _ ea)), RowsAt.keep (Fz.of_same s2) tk, _, rfl, ?_⟩
      rw [if_pos rfl]
      have st := filter_next (p := fun o => !decide (o ∈ takenR kd ws)) eo
      by_cases e : (!decide (o ∈ takenR kd ws)) = true
      · rw [e]
        refine iteT ⟨_, rfl, zs, e2, by omega, fun b u eu => ?_, zs ++ [y], upd_same, ?_, ?_⟩
        · rw [upd_ne (ne_of_none eu hD)]
          exact s2 b u eu
        · rw [st, if_pos e]
          exact each_append z2 (.cons ho .nil)
        · rw [List.length_append]
          show zs.length + 1 ≤ i + 1
          omega
      · rw [Bool.eq_false_iff.mpr e]
        refine iteF ⟨s2, zs, e2, ?_, by omega⟩
        rw [st, if_neg e]
        exact z2
    rintro H2 ⟨s2, zs, e2, z2, lz⟩
    rw [hrs.length, List.take_length] at z2
    have z2' : RowsAt H1 zs (leftR kd ws rs) := z2
    -- all
    refine ⟨_, rfl, la, rfl, ⟨_, SqL.of (s2 _ _ ea)⟩, fun D2 hD2 => ?_⟩
    refine lc_list (K := K) (a := la) (xs := takenR kd xs) (fun i H' => Same H2 H' ∧ H' D2 = some (.lst ((((takenR kd ws).take i).map fun r => decide (r ∈ rs)).map V.bl))) ⟨same_upd hD2, upd_same⟩ (fun i H' _ z => SqL.of (z.1 _ _ (s2 _ _ ea))) ?_ ?_
    · rintro i y H3 hi ⟨s3, e3⟩
      refine ⟨rfl, ?_⟩
      dsimp only [tYes]
      rw [if_pos rfl]
      obtain ⟨o, eo, ho⟩ := each_get tk hi
      have s23 := s2.trans s3
      refine ⟨_, rfl, _, rfl, o, q, _, _, ho.keep (Fz.of_same s23), rfl, .inl (sameT s23 hq1), RowsAt.keep (Fz.of_same s23) rs1, _, e3, ?_, fun b u eu => ?_, ?_⟩
      · have := taken_len kd ws
        rw [List.length_map, List.length_map, List.length_take]
        omega
      · rw [upd_ne (ne_of_none eu hD2)]
        exact s3 b u eu
      · rw [upd_same, List.take_add_one, eo]
        simp
    rintro H3 ⟨s3, e3⟩
    rw [tk.length, List.take_length] at e3
    have s23 := s2.trans s3
    have s13 := s1.trans s23
    refine ⟨D2, _, rfl, SqL.of e3, _, rfl, ?_⟩
    have al : (((takenR kd ws).map fun r => decide (r ∈ rs)).all id) = (takenR kd ws).all fun r => decide (r ∈ rs) := by
      rw [List.all_map]
      rfl
    rw [al]
    cases ha : (takenR kd ws).all fun r => decide (r ∈ rs) with
    | false =>
      refine iteT ?_
      have : possR ti kd ws rs = false := by
        unfold possR
        rw [ha, Bool.false_and]
      rw [← this]
      exact k H3 s13
    | true =>
      refine iteF ?_
      have e2' := s3 _ _ e2
      refine ⟨_, rfl, lb, rfl, ⟨_, SqL.of (s23 _ _ eb)⟩, fun D3 hD3 => ?_⟩
      refine lc_list (K := K) (a := lb) (xs := putR kd xs) (fun i H' => Same H3 H' ∧ H' D3 = some (.lst ((((putR kd ws).take i).map fun r => decide (r ∈ rs) || (leftR kd ws rs).any (clashR ti r)).map V.bl))) ⟨same_upd hD3, upd_same⟩ (fun i H' _ z => SqL.of (z.1 _ _ (s23 _ _ eb))) ?_ ?_
      · rintro i y H4 hi ⟨s4, e4⟩
        refine ⟨rfl, ?_⟩
        dsimp only [tYes]
        rw [if_pos rfl]
        obtain ⟨o, eo, ho⟩ := each_get pt hi
        have s24 := s23.trans s4
        have s14 := s13.trans s4
        have lt := (List.getElem?_eq_some_iff.mp eo).1
        have pl := put_len kd ws
        have fin : ∀ H5, Same H4 H5 → ∃ acc, H5 D3 = some (.lst acc) ∧ acc.length < sizeLine ∧ Same H3 (upd H5 D3 (.lst (acc ++ [V.bl (decide (o ∈ rs) || (leftR kd ws rs).any (clashR ti o))]))) ∧
            upd H5 D3 (.lst (acc ++ [V.bl (decide (o ∈ rs) || (leftR kd ws rs).any (clashR ti o))])) D3 = some (.lst ((((putR kd ws).take (i + 1)).map fun r => decide (r ∈ rs) || (leftR kd ws rs).any (clashR ti r)).map V.bl)) := fun H5 s5 => by
          refine ⟨_, s5 _ _ e4, ?_, fun b u eu => ?_, ?_⟩
          · rw [List.length_map, List.length_map, List.length_take]
            omega
          · rw [upd_ne (ne_of_none eu hD3)]
            exact s5 _ _ (s4 b u eu)
          · rw [upd_same, List.take_add_one, eo]
            simp
        refine ⟨_, rfl, _, rfl, o, q, _, _, ho.keep (Fz.of_same s24), rfl, .inl (sameT s24 hq1), RowsAt.keep (Fz.of_same s24) rs1, _, rfl, ?_⟩
        show if decide (o ∈ rs) = true then _ else _
        by_cases e : decide (o ∈ rs) = true
        · rw [if_pos e]
          have f := fin H4 (Same.refl H4)
          rw [e, Bool.true_or] at f
          exact f
        · rw [if_neg e]
          have ef := Bool.eq_false_iff.mpr e
          have om := put_sub (List.mem_of_getElem? eo)
          have ll : (leftR kd ws rs).length ≤ rs.length := List.length_filter_le _ _
          refine ⟨_, rfl, _, rfl, _, rfl, a, y, D, ti, o, zs, leftR kd ws rs, rfl, tb.same s14, ho.keep (Fz.of_same s24), SqL.of (s4 _ _ e2'), RowsAt.keep (Fz.of_same s24) z2', o1 o om, fun o' m => o2 o' (List.mem_filter.mp m).1, by omega, fun H5 s5 => ?_⟩
          have f := fin H5 s5
          rw [ef, Bool.false_or] at f
          exact f
      · rintro H4 ⟨s4, e4⟩
        rw [pt.length, List.take_length] at e4
        refine ⟨D3, _, rfl, SqL.of e4, _, rfl, ?_⟩
        have an : (((putR kd ws).map fun r => decide (r ∈ rs) || (leftR kd ws rs).any (clashR ti r)).any id) = (putR kd ws).any fun r => decide (r ∈ rs) || (leftR kd ws rs).any (clashR ti r) := by
          rw [List.any_map]
          rfl
        rw [an]
        have : possR ti kd ws rs = !((putR kd ws).any fun r => decide (r ∈ rs) || (leftR kd ws rs).any (clashR ti r)) := by
          unfold possR
          rw [ha, Bool.true_and]
        rw [← this]
        exact k H4 (s13.trans s4)
end
end Vm
/-! rows_after, is_change_of -/
namespace Vm
open PySem L2
abbrev sParts : Stmt := top 23
abbrev sChangeOf : Stmt := top 24
theorem okC_isS {b : Bool} {c : Cell} (h : okC b c = true) : c.isS = b := by
  cases b <;> cases c <;> first | rfl | exact nomatch h
theorem ok_shp {ti : Ti} {r : Row} (h : Row.ok ti r) : shp r = List.replicate ti.ss.length true ++ List.replicate ti.zs.length false := by
  refine List.ext_getElem? fun i => ?_
  unfold shp
  rw [List.getElem?_map]
  by_cases lt : i < r.length
  · have e := List.getElem?_eq_getElem lt
    have c := h.cell i _ e
    rw [e]
    have len := h.len
    by_cases a : i < ti.ss.length
    · rw [List.getElem?_append_left (by rw [List.length_replicate]; exact a), List.getElem?_replicate, if_pos a]
      rw [decide_eq_true a] at c
      exact congrArg some (okC_isS c)
    · rw [List.getElem?_append_right (by rw [List.length_replicate]; omega), List.getElem?_replicate, List.length_replicate, if_pos (by omega)]
      rw [decide_eq_false a] at c
      exact congrArg some (okC_isS c)
  · rw [List.getElem?_eq_none (by omega), List.getElem?_eq_none]
    · rfl
    · rw [List.length_append, List.length_replicate, List.length_replicate]
      have := h.len
      omega
theorem shp_cons {ti : Ti} (g : ti.ok) : ∃ c cs, List.replicate ti.ss.length true ++ List.replicate ti.zs.length false = c :: cs := by
  have : 0 < (List.replicate ti.ss.length true ++ List.replicate ti.zs.length false).length := by
    have := g.ne
    rw [List.length_append] at this
    rw [List.length_append, List.length_replicate, List.length_replicate]
    exact this
  cases e : List.replicate ti.ss.length true ++ List.replicate ti.zs.length false with
  | nil =>
    rw [e] at this
    exact absurd this (by decide)
  | cons c cs => exact ⟨c, cs, rfl⟩
/-- a tuple that was made here, of rows -/
def RTup (H : Hp) (q : Addr) (rs : List Row) : Prop := ∃ (o : Obj) (vs : List V), H q = some (.frz o (.tup vs)) ∧ o.dict = none ∧ RowsAt H vs rs
theorem RTup.keep {H H' : Hp} {q : Addr} {rs : List Row} (h : RTup H q rs) (k : Fz H H') : RTup H' q rs := let ⟨o, vs, e, d, r⟩ := h; ⟨o, vs, k _ _ _ e, d, r.keep k⟩
def spAfter (K : PySem.W.Frag) : Sp := fun vs H Q _ => ∃ (p q : Addr) (kd : Str) (v2 : V) (xs ys : List V) (ws rs : List Row) (ti : Ti), vs = [.ref p, .ref q] ∧ SqT K H p (.str kd :: v2 :: xs) ∧ RowsAt H xs ws ∧ SqT K H q ys ∧ RowsAt H ys rs ∧ ti.ok ∧
  (∀ r ∈ ws, Row.ok ti r) ∧ (∀ r ∈ rs, Row.ok ti r) ∧ ws.length ≤ 8 ∧ rs.length ≤ 100 ∧ ∀ H' q', Same H H' → H q' = none → RTup H' q' (afterR kd ws rs) → Q (.ref q') H'
section
variable {P : Program} {w : World} {K : PySem.W.Frag} {mg : Str → Option Value} {base : Heap} {fNm fNms fCols fKey C CI fTk fCl : Addr}
theorem scAfter : FnScope ["change", "rows", "taken", "put", "row"] ["change", "rows"] (defScope sAfter) := ⟨rfl, rfl, rfl, by decide +kernel, rfl, by decide +kernel, by decide +kernel⟩
theorem ok_after {f : Addr} {fd fdT : FuncData} (F : Fun K "rows_after" "rows_after" sAfter f fd) (tuple : mg "tuple" = none) (sorted : mg "sorted" = none)
    (cT : Calls K mg "_taken_and_put" fTk) (GT : FnOk P w K mg base CX0 1 fTk fdT ["change"] (spTaken K)) (bT : Binds K fdT ["change"] []) :
    FnOk P w K mg base CX0 2 f fd ["change", "rows"] (spAfter K) := by
  refine F.ok scAfter (fun vs H Q E h => ?_) (fun cdv A outer s H vs Q E hr h => ?_)
  · obtain ⟨p, q, kd, v2, xs, ys, ws, rs, ti, rfl, _⟩ := h
    rfl
  · obtain ⟨p, q, kd, v2, xs, ys, ws, rs, ti, rfl, hp, hws, hq, hrs, ok, o1, o2, l1, l2, k⟩ := h
    have hu : (A.deeper (PyProof.Rows.envOfC "rows_after" (defScope sAfter) s.heap.objs.size f cdv)).units + 8 < cLine := by
      have := hr.units
      omega
    refine ⟨_, pss_cons (ps_asg (pe_call GT hr rfl cT.g cT.k bT .nil pass0 (pa_cons (pv 0) pa_nil)) (pg_tup rfl (pgs_cons (pg_name (i := 2) scAfter.nd rfl (Or.inr rfl)) (pgs_cons (pg_name (i := 3) scAfter.nd rfl (Or.inl rfl)) pgs_nil))))
      (pss_one (ps_ret (pe_callTy call_tupleF (by rfl) tuple (by decide +kernel) (pa_cons (pe_callB (call_sortedR hu) (by rfl) sorted (by decide +kernel) (pa_cons (pe_op op_cat
        (pe_lc (own := [("row", 4)]) (g := gName 4) (tt := tTest (tOp (rInR K true) (tVar 4) (tVar 2))) (te := tVar 4) rfl scAfter.nd (pi_tup (pv 1))
          (blkOk_by (N := ["change", "rows", "taken", "put", "row"]) (sc := defScope sAfter) (by decide +kernel)) (fun _ _ _ _ _ => pg_name (i := 4) scAfter.nd rfl (Or.inl rfl))
          (fun _ _ _ _ _ => by exact (pts_one (pt_cmpR (op_notInR hu) (pv 4) (pv 2) (by rfl)))) (fun _ _ _ _ _ => by exact (pv 4))) (pv 3)) pa_nil)) pa_nil)))), ?_⟩
    have big : sizeLine > 1000 := by decide
    have lx : xs.length = ws.length := hws.length
    refine ⟨_, rfl, p, kd, v2, xs, rfl, hp, by omega, fun q1 la lb H1 s1 hq1 ea eb na nb _ => ?_⟩
    refine ⟨q1, _, rfl, hq1, rfl, _, _, rfl, _, _, rfl, rfl, ?_⟩
    have tk := each_taken kd (RowsAt.keep (Fz.of_same s1) hws)
    have pt := each_put kd (RowsAt.keep (Fz.of_same s1) hws)
    have rs1 := RowsAt.keep (Fz.of_same s1) hrs
    have hq1 := sameT s1 hq
    refine ⟨_, rfl, q, rfl, ⟨_, hq1⟩, fun D hD => ?_⟩
    refine lc_tup (K := K) (a := q) (xs := ys) (fun i H' => Same H1 H' ∧ ∃ zs, H' D = some (.lst zs) ∧ RowsAt H1 zs ((rs.take i).filter fun o => !decide (o ∈ takenR kd ws)) ∧ zs.length ≤ i) ⟨same_upd hD, [], upd_same, .nil, Nat.le_refl _⟩ (fun i H' _ z => sameT z.1 hq1) ?_ ?_
    · rintro i y H2 hi ⟨s2, zs, e2, z2, lz⟩
      refine ⟨rfl, ?_⟩
      obtain ⟨o, eo, ho⟩ := each_get rs1 hi
      have li : i < ys.length := (List.getElem?_eq_some_iff.mp hi).1
      have ly : ys.length = rs.length := hrs.length
      refine ⟨_, rfl, _, rfl, o, la, _, _, ho.keep (Fz.of_same s2), rfl, .inr (SqL.of (s2 _ _ ea)), RowsAt.keep (Fz.of_same s2) tk, _, rfl, ?_⟩
      rw [if_pos rfl]
      have st := filter_next (p := fun o => !decide (o ∈ takenR kd ws)) eo
      by_cases e : (!decide (o ∈ takenR kd ws)) = true
      · rw [e]
        refine iteT ⟨_, rfl, zs, e2, by omega, fun b u eu => ?_, zs ++ [y], upd_same, ?_, ?_⟩
        · rw [upd_ne (ne_of_none eu hD)]
          exact s2 b u eu
        · rw [st, if_pos e]
          exact each_append z2 (.cons ho .nil)
        · rw [List.length_append]
          show zs.length + 1 ≤ i + 1
          omega
      · rw [Bool.eq_false_iff.mpr e]
        refine iteF ⟨s2, zs, e2, ?_, by omega⟩
        rw [st, if_neg e]
        exact z2
    rintro H2 ⟨s2, zs, e2, z2, lz⟩
    rw [hrs.length, List.take_length] at z2
    have z2' : RowsAt H1 zs (leftR kd ws rs) := z2
    have ly : ys.length = rs.length := hrs.length
    have pl := put_len kd xs
    refine ⟨_, rfl, D, lb, zs, putR kd xs, rfl, rfl, e2, s2 _ _ eb, by omega, fun L hL => ?_⟩
    have s3 := same_upd (o := .lst (zs ++ putR kd xs)) hL
    have all : RowsAt (upd H2 L (.lst (zs ++ putR kd xs))) (zs ++ putR kd xs) (leftR kd ws rs ++ putR kd ws) := RowsAt.keep (Fz.of_same (s2.trans s3)) (each_append z2' pt)
    obtain ⟨c, cs, ecs⟩ := shp_cons ok
    refine ⟨L, _, _, c, cs, rfl, SqL.of upd_same, all, fun r hr' => ?_, fun q2 vs' hq2 rv => ?_⟩
    · rw [← ecs]
      rcases List.mem_append.mp hr' with m | m
      · exact ok_shp (o2 r (List.mem_filter.mp m).1)
      · exact ok_shp (o1 r (put_sub m))
    have s4 := same_upd (o := .lst vs') hq2
    refine ⟨q2, vs', rfl, SqL.of upd_same, fun q3 ob hq3 hd => ?_⟩
    have s5 := same_upd (o := .frz ob (.tup vs')) hq3
    have s35 := (s3.trans s4).trans s5
    refine k _ q3 ((s1.trans s2).trans s35) ((s1.trans s2).free ((s3.trans s4).free hq3)) ⟨ob, vs', upd_same, hd, ?_⟩
    exact RowsAt.keep (Fz.of_same (s4.trans s5)) rv
end
/-! is_change_of -/
def lenV (kd : Str) : V := if kd = insS then .int 3 else if kd = "delete" then .int 3 else if kd = "replace" then .int 4 else .non
/-- a change of one of the tables -/
def rowsOk (ts : List Ti) (nm : Tr) (rs : List Tr) : Bool := match firstAt ts nm with
  | some i => (match ts[i]? with
    | some ti => rs.all (isRow ti.ss.length ti.zs.length)
    | none => false)
  | none => false
def chgK (ts : List Ti) (nm : Tr) (rs : List Tr) : Tr → Bool
  | .str kd => decide (lenV kd = .int ((rs.length + 2 : Nat) : Int)) && rowsOk ts nm rs
  | _ => false
def chgL (ts : List Ti) : List Tr → Bool
  | k :: nm :: r :: rs => chgK ts nm (r :: rs) k
  | _ => false
def isChg (ts : List Ti) : Tr → Bool
  | .tup us => chgL ts us
  | _ => false
theorem ws_len : ∀ ts : List Tr, 2 * ts.length ≤ ws ts
  | [] => Nat.le_refl _
  | x :: r => by
    have h := ws_len r
    show 2 * (r.length + 1) ≤ (x.w + 2) + ws r
    omega
/-- the table and the rows of what looks like a change, or none -/
def spParts (K : PySem.W.Frag) (C : Addr) : Sp := fun vs H Q _ => ∃ (v : V) (t : Tr) (n : Nat) (bs : List Addr) (q : Addr) (ws : List V) (ts : List Ti), vs = [v, .ref q] ∧ Dt K H v t n bs ∧ t.w ≤ 10000 ∧ SqT K H q ws ∧ TbsAt K H C ws ts ∧
  (isChg ts t = false → ∀ H', Same H H' → Q .non H') ∧
  ∀ (H' : Hp) (p L a : Addr) (ti : Ti) (ys : List V) (us : List Tr) (m : Nat) (cs : List Addr), Same H H' → SqT K H' p [.ref a, .ref L] → H' L = some (.lst ys) → Tb K H' C a ti.nm ti.ss ti.zs ti.ks → DtAll K H ys us m cs → us.length ≤ 5000 → isChg ts t = us.all (isRow ti.ss.length ti.zs.length) → Q (.ref p) H'
section
variable {P : Program} {w : World} {K : PySem.W.Frag} {mg : Str → Option Value} {base : Heap} {fNm fNms fCols fKey C CI fTN fR dL : Addr} {es : Array DictEntry} {en : Nat}
theorem scParts : FnScope ["thing", "tables", "kind", "name", "rows", "table"] ["thing", "tables"] (defScope sParts) := ⟨rfl, rfl, rfl, by decide +kernel, rfl, by decide +kernel, by decide +kernel⟩
theorem ok_parts {f : Addr} {fd fdN : FuncData} (F : Fun K "changed_parts" "changed_parts" sParts f fd) (T : TxtP K mg fNm fNms) (U : TxtT K mg C CI fCols fKey)
    (D : KDict K w dL es en) (gL : mg "_LENGTHS" = some (.ref dL)) (lens : ∀ z, ∃ r, PySem.W.nsIn K dL z = some r ∧ RelV (lenV z) (r.getD .none))
    (cN : Calls K mg "table_named" fTN) (GN : FnOk P w K mg base CX0 1 fTN fdN ["name", "tables"] (spNamed K C)) (bN : Binds K fdN ["name", "tables"] []) :
    FnOk P w K mg base CX0 2 f fd ["thing", "tables"] (spParts K C) := by
  refine F.ok scParts (fun vs H Q E h => ?_) (fun cdv A outer s H vs Q E hr h => ?_)
  · obtain ⟨v, t, n, bs, q, ws, ts, rfl, _⟩ := h
    rfl
  · obtain ⟨v, t, n, bs, q, ws, ts, rfl, d, tw, hq, hts, k1, k2⟩ := h
    have hr1 : Room 1 _ := hr.mono (by decide)
    refine ⟨_, pss_cons (ps_if (PW.pt (pw_or (pt_not (pt_val (pe_callB call_isi (by rfl) T.isi (by decide +kernel) (pa_cons (pv 0) (pa_cons (pe_bltn (v := .ty "tuple") (by rfl) T.tuple (by decide +kernel) rfl) pa_nil)))))
          (pw_or1 (pt_cmpR op_lt (pe_callB call_len_seq (by rfl) T.len (by decide +kernel) (pa_cons (pv 0) pa_nil)) pe_int (nomark _))))) (pss_one (ps_ret pe_non)) pss_nil)
      (pss_cons (ps_asg (pv 0) (pg_star (n := 2) rfl (pgs_cons (pg_name (i := 2) scParts.nd rfl (Or.inl rfl)) (pgs_cons (pg_name (i := 3) scParts.nd rfl (Or.inl rfl)) (pgs_star (pg_name (i := 4) scParts.nd rfl (Or.inl rfl)))))))
      (pss_cons (ps_if (PW.pt (pw_or (pt_not (pt_val (pe_callB call_isi (by rfl) T.isi (by decide +kernel) (pa_cons (pv 2) (pa_cons (pe_bltn (v := .ty "str") (by rfl) T.str (by decide +kernel) rfl) pa_nil)))))
          (pw_or1 (pt_cmpR op_ne (pe_kget D (pe_glob (by rfl) gL (v := .ref dL) rfl) (pv 2) ⟨rfl, rfl, rfl, rfl⟩) (pe_callB call_len_seq (by rfl) T.len (by decide +kernel) (pa_cons (pv 0) pa_nil)) (nomark _))))) (pss_one (ps_ret pe_non)) pss_nil)
      (pss_cons (ps_set (i := 5) scParts.nd rfl (Or.inl rfl) (pe_call GN hr1 rfl cN.g cN.k bN .nil pass0 (pa_cons (pv 3) (pa_cons (pv 1) pa_nil))))
      (pss_one (ps_ret (pe_ifExp (pt_cmpR op_isN (pv 5) pe_non (nomark _)) pe_non (pe_tup (pa_cons (pv 5) (pa_cons (pv 4) pa_nil))))))))), ?_⟩
    have big : sizeLine > 20000 := by decide
    have no : isChg ts t = false → ∀ H', Same H H' → Q .non H' := fun z H' s' => by
      exact k1 z H' s'
    refine ⟨_, rfl, v, _, _, _, isTup t, rfl, .ty _, d.ty, kit_tup t, _, rfl, ?_⟩
    cases ht : isTup t with
    | false =>
      refine iteT (iteT (no ?_ H (Same.refl H)))
      cases t <;> first | rfl | cases ht
    | true =>
      obtain ⟨b, xs, us, m, cs, rfl, rfl, _, hb, r, _⟩ := d.tupOf ht
      have hl := r.length
      have hw : 3 + Vm.ws us ≤ 10000 := tw
      have hwl := ws_len us
      refine iteF ?_
      refine ⟨_, rfl, b, xs, rfl, .inr hb, _, _, rfl, rfl, _, rfl, ?_⟩
      by_cases few : (xs.length : Int) < 3
      · rw [decide_eq_true few]
        refine iteT (no ?_ H (Same.refl H))
        have : us.length < 3 := by omega
        show chgL ts us = false
        cases us with
        | nil => rfl
        | cons a us =>
          cases us with
          | nil => rfl
          | cons b us =>
            cases us with
            | nil => rfl
            | cons c us =>
              simp only [List.length_cons] at this
              omega
      rw [decide_eq_false few]
      refine iteF ?_
      obtain ⟨x1, x2, x3, xr, rfl⟩ : ∃ x1 x2 x3 xr, xs = x1 :: x2 :: x3 :: xr := by
        have few' : 3 ≤ xs.length := by omega
        clear few hl r hb
        match xs, few' with
        | x1 :: x2 :: x3 :: xr, _ => exact ⟨x1, x2, x3, xr, rfl⟩
      obtain ⟨u1, u2, u3, ur, rfl⟩ : ∃ u1 u2 u3 ur, us = u1 :: u2 :: u3 :: ur := by
        have h3 : 3 ≤ us.length := by
          rw [← hl]
          simp only [List.length_cons]
          omega
        clear hl r d k1 k2 no hw hwl tw ht
        match us, h3 with
        | u1 :: u2 :: u3 :: ur, _ => exact ⟨u1, u2, u3, ur, rfl⟩
      have lr : xr.length = ur.length := by
        simp only [List.length_cons] at hl
        omega
      have lu : 2 * (ur.length + 3) ≤ 10000 := by
        simp only [List.length_cons] at hwl
        omega
      cases r with
      | cons d1 r =>
      cases r with
      | cons d2 r =>
      rename_i c1 _ c2 c3
      refine ⟨_, rfl, b, _, rfl, hb, by show 2 ≤ xr.length + 3; omega, by show xr.length + 3 ≤ 16384; omega, fun L hL => ?_⟩
      have sL := same_upd (o := .lst (x3 :: xr)) hL
      have eL : upd H L (.lst (x3 :: xr)) L = some (.lst (x3 :: xr)) := upd_same
      refine ⟨_, _, rfl, _, _, rfl, _, _, rfl, rfl, ?_⟩
      show tSeq _ _ _ _ (upd H L (.lst (x3 :: xr)))
      generalize upd H L (.lst (x3 :: xr)) = H1 at sL eL ⊢
      refine ⟨_, rfl, x1, _, _, _, isStr u1, rfl, .ty _, (d1.same sL).ty, kit_str u1, _, rfl, ?_⟩
      cases hs : isStr u1 with
      | false =>
        refine iteT (iteT (no ?_ H1 sL))
        cases u1 <;> first | rfl | cases hs
      | true =>
      obtain ⟨kd, rfl⟩ : ∃ kd, u1 = .str kd := by cases u1 <;> first | exact ⟨_, rfl⟩ | cases hs
      cases d1
      refine iteF ?_
      obtain ⟨rr, en1, rv⟩ := lens kd
      refine ⟨rfl, _, rfl, kd, rr, lenV kd, rfl, en1, rv, _, rfl, b, _, rfl, .inr (sameT sL hb), ?_, _, rfl, ?_⟩
      · unfold lenV
        by_cases e1 : kd = insS
        · rw [if_pos e1]
          rfl
        · rw [if_neg e1]
          by_cases e2 : kd = "delete"
          · rw [if_pos e2]
            rfl
          · rw [if_neg e2]
            by_cases e3 : kd = "replace"
            · rw [if_pos e3]
              rfl
            · rw [if_neg e3]
              rfl
      have le2 : decide (lenV kd = V.int ((V.str kd :: x2 :: x3 :: xr).length : Nat)) = decide (lenV kd = .int ((ur.length + 3 : Nat) : Int)) := by
        have : (V.str kd :: x2 :: x3 :: xr).length = ur.length + 3 := by
          simp only [List.length_cons]
          omega
        rw [this]
      rw [le2]
      by_cases ek : lenV kd = .int ((ur.length + 3 : Nat) : Int)
      · rw [decide_eq_true ek]
        refine iteF ?_
        have chg : isChg ts (.tup (.str kd :: u2 :: u3 :: ur)) = rowsOk ts u2 (u3 :: ur) := by
          show (decide (lenV kd = .int ((ur.length + 3 : Nat) : Int)) && _) = _
          rw [decide_eq_true ek, Bool.true_and]
        refine ⟨_, rfl, _, rfl, x2, u2, m, _, q, ws, ts, rfl, d2.same sL, sameT sL hq, tbs_same hts sL, fun i w H2 fi hw2 s2 => ?_, fun fi H2 s2 => ?_⟩
        · obtain ⟨ti, et, a, rfl, tb⟩ := each_get hts hw2
          have s12 := sL.trans s2
          have ro : rowsOk ts u2 (u3 :: ur) = (u3 :: ur).all (isRow ti.ss.length ti.zs.length) := by
            unfold rowsOk
            rw [fi]
            show (match ts[i]? with | some ti => _ | none => _) = _
            rw [et]
          refine ⟨_, rfl, rfl, _, rfl, ?_⟩
          refine iteF ⟨_, rfl, _, rfl, ?_⟩
          refine ⟨by show 2 ≤ sizeLine; omega, fun p hp => ?_⟩
          have s3 := same_upd (o := .tup [.ref a, .ref L]) hp
          exact k2 _ p L a ti (x3 :: xr) (u3 :: ur) m _ (s12.trans s3) (SqT.of upd_same) (s3 _ _ (s2 _ _ eL)) (tb.same (s12.trans s3)) r (by show ur.length + 1 ≤ 5000; omega) (chg.trans ro)
        · refine ⟨_, rfl, rfl, _, rfl, ?_⟩
          have ro : rowsOk ts u2 (u3 :: ur) = false := by
            unfold rowsOk
            rw [fi]
          exact iteT (k1 (chg.trans ro) H2 (sL.trans s2))
      · rw [decide_eq_false ek]
        refine iteT (no ?_ H1 sL)
        show (decide (lenV kd = .int ((ur.length + 3 : Nat) : Int)) && _) = _
        rw [decide_eq_false ek, Bool.false_and]
end
def spChangeOf (K : PySem.W.Frag) (C : Addr) : Sp := fun vs H Q _ => ∃ (v : V) (t : Tr) (n : Nat) (bs : List Addr) (q : Addr) (ws : List V) (ts : List Ti), vs = [v, .ref q] ∧ Dt K H v t n bs ∧ t.w ≤ 10000 ∧ SqT K H q ws ∧ TbsAt K H C ws ts ∧ ∀ H', Same H H' → Q (.bl (isChg ts t)) H'
section
variable {P : Program} {w : World} {K : PySem.W.Frag} {mg : Str → Option Value} {base : Heap} {fNm fNms fCols fKey C CI fPt fR : Addr}
theorem scChangeOf : FnScope ["thing", "tables", "parts", "table", "rows", "row"] ["thing", "tables"] (defScope sChangeOf) := ⟨rfl, rfl, rfl, by decide +kernel, rfl, by decide +kernel, by decide +kernel⟩
theorem ok_changeof {f : Addr} {fd fdP fdR : FuncData} (F : Fun K "is_change_of" "is_change_of" sChangeOf f fd) (T : TxtP K mg fNm fNms) (U : TxtT K mg C CI fCols fKey)
    (cP : Calls K mg "changed_parts" fPt) (GP : FnOk P w K mg base CX0 2 fPt fdP ["thing", "tables"] (spParts K C)) (bP : Binds K fdP ["thing", "tables"] [])
    (mR : Meth K C "is_row" fR) (GR : FnOk P w K mg base CX0 2 fR fdR ["self", "thing"] (spRow K C)) (bR : Binds K fdR ["self", "thing"] []) :
    FnOk P w K mg base CX0 3 f fd ["thing", "tables"] (spChangeOf K C) := by
  refine F.ok scChangeOf (fun vs H Q E h => ?_) (fun cdv A outer s H vs Q E hr h => ?_)
  · obtain ⟨v, t, n, bs, q, ws, ts, rfl, _⟩ := h
    rfl
  · obtain ⟨v, t, n, bs, q, ws, ts, rfl, d, tw, hq, hts, k⟩ := h
    refine ⟨_, pss_cons (ps_set (i := 2) scChangeOf.nd rfl (Or.inl rfl) (pe_call GP hr rfl cP.g cP.k bP .nil pass0 (pa_cons (pv 0) (pa_cons (pv 1) pa_nil))))
      (pss_cons (ps_if (pt_cmpR op_isN (pv 2) pe_non (nomark _)) (pss_one (ps_ret pe_bl)) pss_nil)
      (pss_cons (ps_asg (pv 2) (pg_tup rfl (pgs_cons (pg_name (i := 3) scChangeOf.nd rfl (Or.inr rfl)) (pgs_cons (pg_name (i := 4) scChangeOf.nd rfl (Or.inl rfl)) pgs_nil))))
      (pss_one (ps_ret (pe_callB (cr_all rfl) (by rfl) T.all (by decide +kernel) (pa_cons (pe_lc (own := [("row", 5)]) (g := gName 5) (tt := tYes) rfl scChangeOf.nd (pi_list (pv 4))
            (blkOk_by (N := ["thing", "tables", "parts", "table", "rows", "row"]) (sc := defScope sChangeOf) (by decide +kernel)) (fun _ _ _ _ _ => pg_name (i := 5) scChangeOf.nd rfl (Or.inl rfl)) (fun _ _ _ _ _ => pts_nil)
            (fun _ _ _ _ _ => pe_meth (pv 3) U.cl mR GR hr bR .nil pass0 (pa_cons (pv 5) pa_nil))) pa_nil)))))), ?_⟩
    have big : sizeLine > 20000 := by decide
    refine ⟨_, rfl, _, rfl, v, t, n, bs, q, ws, ts, rfl, d, tw, hq, hts, fun z H1 s1 => ?_, fun H1 p L a ti ys us m cs s1 hp eL tb r lu e => ?_⟩
    · refine ⟨_, rfl, rfl, _, rfl, ?_⟩
      rw [z] at k
      exact iteT (k H1 s1)
    · refine ⟨_, rfl, rfl, _, rfl, ?_⟩
      refine iteF ?_
      rw [e] at k
      refine ⟨_, rfl, p, _, rfl, hp, rfl, _, _, rfl, _, _, rfl, rfl, ?_⟩
      obtain ⟨dx, a2, a3, a4, ha, _⟩ := tb.ex
      have lr := r.length
      refine ⟨_, rfl, L, rfl, ⟨_, SqL.of eL⟩, fun D2 hD2 => ?_⟩
      refine lc_list (K := K) (a := L) (xs := ys) (fun i H' => Same H1 H' ∧ H' D2 = some (.lst (((us.take i).map (isRow ti.ss.length ti.zs.length)).map V.bl))) ⟨same_upd hD2, upd_same⟩ (fun i H' _ z => SqL.of (z.1 _ _ eL)) ?_ ?_
      · rintro i2 y H3 hi ⟨s3, e3⟩
        refine ⟨rfl, ?_⟩
        dsimp only [tYes]
        rw [if_pos rfl]
        obtain ⟨t, ct, et2, dt, _⟩ := r.get hi
        refine ⟨_, rfl, a, dx, _, rfl, s3 _ _ ha, rfl, _, rfl, a, ti.nm, ti.ss, ti.zs, ti.ks, y, t, m, ct, rfl, tb.same s3, dt.same (s1.trans s3), fun H4 s4 => ⟨_, s4 _ _ e3, ?_, fun b o e => ?_, ?_⟩⟩
        · rw [List.length_map, List.length_map, List.length_take]
          omega
        · rw [upd_ne (ne_of_none e hD2)]
          exact s4 b o (s3 b o e)
        · rw [upd_same, List.take_add_one, et2]
          simp
      · rintro H3 ⟨s3, e3⟩
        rw [lr, List.take_length] at e3
        refine ⟨D2, _, rfl, SqL.of e3, ?_⟩
        rw [List.all_map]
        exact k H3 (s1.trans s3)
end
end Vm
/-! defs with a star parameter -/
namespace Vm
open PySem L2 StX
abbrev sSInit : Stmt := inClass (top 39) 1
abbrev sTableOf : Stmt := inClass (top 39) 3
abbrev sRowsOf : Stmt := inClass (top 39) 4
abbrev sIsChange : Stmt := inClass (top 39) 5
abbrev sIsPossible : Stmt := inClass (top 39) 6
abbrev sDo : Stmt := inClass (top 39) 7
section
variable {P : Program} {w : World} {K : PySem.W.Frag} {mg : Str → Option Value} {base : Heap}
theorem Fun.star {CX : CXT} {x qual pv : Str} {st : Stmt} {f : Addr} {fd : FuncData} {N ps : List Str} {k : Nat} {sp : Sp} (F : Fun K x qual st f fd) (S : FnScope N (ps ++ [pv]) (defScope st)) (hCX : CXUp CX)
    (hb : ∀ (kV doc pm : Value) (an : Option Addr) (cdv ct : Value) (us rest : List Value), us.length = ps.length → bindArgs (PySem.W.fnOf x qual (defArgs st) (defBody st) (defScope st) .none kV doc pm an cdv ct) ⟨us ++ rest, []⟩ = (newTuple rest >>= fun t => pure (ps.zip us ++ [(pv, t)])))
    (hbody : ∀ (cdv : Value) (A : Around) (outer : List Env) (s : Shared) (H : Hp) (vs : List V) (Q : VK) (E : XK), Room k (A.deeper (PyProof.Rows.envOfC qual (defScope st) s.heap.objs.size f cdv)) → sp vs H Q E →
      ∃ t, PSs (cxOf CX P w K mg base N qual (defScope st) f cdv A outer s H E) (defBody st) t ∧ t { nx := fun _ H' => Q .non H', rt := Q } (start N vs) H) :
    FnR P w K mg base CX (k + 1) f (fun vs H Q E => ∃ ws rest, vs = ws ++ rest ∧ ws.length = ps.length ∧ rest.length ≤ sizeLine ∧ ∀ p, H p = Option.none → sp (ws ++ [V.ref p]) (upd H p (.tup rest)) Q E) := by
  obtain ⟨oc, od, kV, doc, pm, an, cdv, ct, osl, rfl, lk, hcd⟩ := F.ex
  exact fn_star lk hcd S hCX (hb kV doc pm an cdv ct) fun A outer s H vs Q E hr q => hbody cdv A outer s H vs Q E hr q
theorem bind_do (kV doc pm : Value) (an : Option Addr) (cdv ct : Value) : ∀ us rest : List Value, us.length = ["self"].length → bindArgs (PySem.W.fnOf "do" "Store.do" (defArgs sDo) (defBody sDo) (defScope sDo) .none kV doc pm an cdv ct) ⟨us ++ rest, []⟩ = (newTuple rest >>= fun t => pure ((["self"] : List Str).zip us ++ [(("changes" : Str), t)])) :=
  bind_star1 (B := fun vs => bindArgs (PySem.W.fnOf "do" "Store.do" (defArgs sDo) (defBody sDo) (defScope sDo) .none kV doc pm an cdv ct) ⟨vs, []⟩) (p1 := "self") (pv := "changes") (fun a => by rfl) (fun a r rs => by rfl)
theorem bind_sinit (kV doc pm : Value) (an : Option Addr) (cdv ct : Value) : ∀ us rest : List Value, us.length = ["self"].length → bindArgs (PySem.W.fnOf "__init__" "Store.__init__" (defArgs sSInit) (defBody sSInit) (defScope sSInit) .none kV doc pm an cdv ct) ⟨us ++ rest, []⟩ = (newTuple rest >>= fun t => pure ((["self"] : List Str).zip us ++ [(("tables" : Str), t)])) :=
  bind_star1 (B := fun vs => bindArgs (PySem.W.fnOf "__init__" "Store.__init__" (defArgs sSInit) (defBody sSInit) (defScope sSInit) .none kV doc pm an cdv ct) ⟨vs, []⟩) (p1 := "self") (pv := "tables") (fun a => by rfl) (fun a r rs => by rfl)
theorem scDo : FnScope ["self", "changes", "change", "done"] ["self", "changes"] (defScope sDo) := ⟨rfl, rfl, rfl, by decide +kernel, rfl, by decide +kernel, by decide +kernel⟩
theorem scSInit : FnScope ["self", "tables", "table"] ["self", "tables"] (defScope sSInit) := ⟨rfl, rfl, rfl, by decide +kernel, rfl, by decide +kernel, by decide +kernel⟩
theorem scTableOf : FnScope ["self", "name", "table"] ["self", "name"] (defScope sTableOf) := ⟨rfl, rfl, rfl, by decide +kernel, rfl, by decide +kernel, by decide +kernel⟩
theorem scRowsOf : FnScope ["self", "name"] ["self", "name"] (defScope sRowsOf) := ⟨rfl, rfl, rfl, by decide +kernel, rfl, by decide +kernel, by decide +kernel⟩
theorem scIsChange : FnScope ["self", "thing"] ["self", "thing"] (defScope sIsChange) := ⟨rfl, rfl, rfl, by decide +kernel, rfl, by decide +kernel, by decide +kernel⟩
theorem scIsPossible : FnScope ["self", "change", "name"] ["self", "change"] (defScope sIsPossible) := ⟨rfl, rfl, rfl, by decide +kernel, rfl, by decide +kernel, by decide +kernel⟩
end
end Vm
/-! a store; table_of, rows_of, is_change, is_possible -/
namespace Vm
open PySem L2
/-- what is no list stays -/
def NL (H H' : Hp) : Prop := ∀ b o, (∀ xs, o ≠ .lst xs) → H b = some o → H' b = some o
theorem NL.of_same {H H' : Hp} (k : Same H H') : NL H H' := fun b o _ e => k b o e
theorem NL.trans {H H1 H2 : Hp} (a : NL H H1) (b : NL H1 H2) : NL H H2 := fun c o n e => b c o n (a c o n e)
theorem NL.refl (H : Hp) : NL H H := fun _ _ _ e => e
theorem NL.fz {H H' : Hp} (k : NL H H') : Fz H H' := fun b o xs e => k b _ (fun _ q => nomatch q) e
theorem But.nl {s l : Addr} {H H' : Hp} {ms : List Int} {z b : Int} (k : But s l H H') (hs : Src H s l ms z b) : NL H H' := fun c o n e => k _ _ (fun q => by
  rw [q, hs.hs] at e
  exact n _ (Option.some.inj e).symm) (fun q => by
  rw [q, hs.hl] at e
  exact n _ (Option.some.inj e).symm) e
theorem NL.sqT {K : PySem.W.Frag} {H H' : Hp} {a : Addr} {xs : List V} (k : NL H H') (h : SqT K H a xs) : SqT K H' a xs := by
  rcases h with (h | ⟨o, h⟩) | h
  · exact .inl (.inl (k _ _ (fun _ q => nomatch q) h))
  · exact .inl (.inr ⟨o, k _ _ (fun _ q => nomatch q) h⟩)
  · exact .inr h
theorem NL.tupE {K : PySem.W.Frag} {H H' : Hp} {a : Addr} {xs : List V} (k : NL H H') (h : TupE K H a xs) : TupE K H' a xs := by
  rcases h with h | ⟨o, h, d⟩
  · exact .inl h
  · exact .inr ⟨o, k _ _ (fun _ q => nomatch q) h, d⟩
theorem TbAt.nl {K : PySem.W.Frag} {H H' : Hp} {C : Addr} {v : V} {t : Ti} (h : TbAt K H C v t) (k : NL H H') : TbAt K H' C v t := by
  obtain ⟨a, e, ⟨dx, a2, a3, a4, h1, h2, h3, h4⟩, l2, l3, l4⟩ := h
  exact ⟨a, e, ⟨dx, a2, a3, a4, k _ _ (fun _ q => nomatch q) h1, k.tupE h2, k.tupE h3, k.tupE h4⟩, l2, l3, l4⟩
def kvsOf (ts : List Ti) (qs : List Addr) : List (Key × V) := List.zipWith (fun ti q => (Sum.inr ti.nm, V.ref q)) ts qs
abbrev RTups (H : Hp) : List Addr → List (List Row) → Prop := PySem.W.EachIs (RTup H)
/-- a store stands at st: its tables, its rows -/
structure StAt (K : PySem.W.Frag) (H : Hp) (C CT st dx tp rd : Addr) (ws : List V) (ts : List Ti) (qs : List Addr) (rss : List (List Row)) : Prop where
  hs : H st = some (.ins C dx [("_tables", .ref tp), ("_rows", .ref rd)])
  ht : SqT K H tp ws
  tb : TbsAt K H CT ws ts
  hd : H rd = some (.dK (kvsOf ts qs))
  rw : RTups H qs rss
  lq : qs.length = ts.length
  nd : (ts.map Ti.nm).Nodup
  few : ts.length ≤ 3
theorem StAt.nl {K : PySem.W.Frag} {H H' : Hp} {C CT st dx tp rd : Addr} {ws : List V} {ts : List Ti} {qs : List Addr} {rss : List (List Row)} (h : StAt K H C CT st dx tp rd ws ts qs rss) (k : NL H H') : StAt K H' C CT st dx tp rd ws ts qs rss :=
  ⟨k _ _ (fun _ q => nomatch q) h.hs, k.sqT h.ht, h.tb.mono fun _ _ z => z.nl k, k _ _ (fun _ q => nomatch q) h.hd, h.rw.mono fun _ _ z => z.keep k.fz, h.lq, h.nd, h.few⟩
theorem StAt.same {K : PySem.W.Frag} {H H' : Hp} {C CT st dx tp rd : Addr} {ws : List V} {ts : List Ti} {qs : List Addr} {rss : List (List Row)} (h : StAt K H C CT st dx tp rd ws ts qs rss) (k : Same H H') : StAt K H' C CT st dx tp rd ws ts qs rss := h.nl (.of_same k)
/-- an own exception class with one field -/
structure XcT (K : PySem.W.Frag) (mg : Str → Option Value) (x : Str) (C fI : Addr) (nid : String) (tl : List Value) (f : Str) : Prop where
  xc : Vk.XC K C nid tl
  iC : PySem.W.findIn K (.ref C) "__init__" = some (some (.ref fI))
  tI : PySem.W.typeIn K (.ref fI) = some (.type "function")
  g : mg x = some (.ref C)
  no : PySem.W.findIn K (.ref C) f = some none
theorem kvs_find : ∀ {ts : List Ti} {qs : List Addr} {i : Nat} {ti : Ti} {q : Addr}, (ts.map Ti.nm).Nodup → ts[i]? = some ti → qs[i]? = some q → valV (kvsOf ts qs) (Sum.inr ti.nm) = some (V.ref q)
  | [], _, _, _, _, _, e, _ => nomatch e
  | _ :: _, [], _, _, _, _, _, e => nomatch e
  | t :: ts, q' :: qs, 0, ti, q, nd, e1, e2 => by
    obtain rfl := Option.some.inj e1
    obtain rfl := Option.some.inj e2
    exact valV_pos rfl
  | t :: ts, q' :: qs, i + 1, ti, q, nd, e1, e2 => by
    rw [List.map_cons, List.nodup_cons] at nd
    have ne : ¬ (Sum.inr t.nm : Key) = Sum.inr ti.nm := fun e => nd.1 (by
      rw [Sum.inr.inj e]
      exact List.mem_map.mpr ⟨ti, List.mem_of_getElem? e1, rfl⟩)
    show valV ((Sum.inr t.nm, V.ref q') :: kvsOf ts qs) (Sum.inr ti.nm) = some (V.ref q)
    rw [valV_neg ne]
    exact kvs_find nd.2 e1 e2
theorem kvs_other : ∀ {ts : List Ti} {qs : List Addr} {nm : Str} {q' : Addr}, (∀ t ∈ ts, t.nm ≠ nm) → (kvsOf ts qs).map (fun kv => if kv.1 = (Sum.inr nm : Key) then (kv.1, V.ref q') else kv) = kvsOf ts qs
  | [], _, _, _, _ => rfl
  | _ :: _, [], _, _, _ => rfl
  | t :: ts, q :: qs, nm, q', h => by
    have ne : ¬ (Sum.inr t.nm : Key) = Sum.inr nm := fun e => h t List.mem_cons_self (Sum.inr.inj e)
    show (if (Sum.inr t.nm : Key) = Sum.inr nm then ((Sum.inr t.nm : Key), V.ref q') else (Sum.inr t.nm, V.ref q)) :: (kvsOf ts qs).map _ = (Sum.inr t.nm, V.ref q) :: kvsOf ts qs
    rw [if_neg ne, kvs_other fun t m => h t (List.mem_cons_of_mem _ m)]
theorem kvs_put0 : ∀ {ts : List Ti} {qs : List Addr} {i : Nat} {ti : Ti} {q' : Addr}, (ts.map Ti.nm).Nodup → ts[i]? = some ti → (kvsOf ts qs).map (fun kv => if kv.1 = (Sum.inr ti.nm : Key) then (kv.1, V.ref q') else kv) = kvsOf ts (qs.set i q')
  | [], _, _, _, _, _, e => nomatch e
  | _ :: _, [], _, _, _, _, _ => rfl
  | t :: ts, q :: qs, 0, ti, q', nd, e1 => by
    obtain rfl := Option.some.inj e1
    rw [List.map_cons, List.nodup_cons] at nd
    show (if (Sum.inr t.nm : Key) = Sum.inr t.nm then ((Sum.inr t.nm : Key), V.ref q') else (Sum.inr t.nm, V.ref q)) :: (kvsOf ts qs).map _ = (Sum.inr t.nm, V.ref q') :: kvsOf ts qs
    rw [if_pos rfl, kvs_other fun u m e => nd.1 (by
      rw [← e]
      exact List.mem_map.mpr ⟨u, m, rfl⟩)]
  | t :: ts, q :: qs, i + 1, ti, q', nd, e1 => by
    rw [List.map_cons, List.nodup_cons] at nd
    have ne : ¬ (Sum.inr t.nm : Key) = Sum.inr ti.nm := fun e => nd.1 (by
      rw [Sum.inr.inj e]
      exact List.mem_map.mpr ⟨ti, List.mem_of_getElem? e1, rfl⟩)
    show (if (Sum.inr t.nm : Key) = Sum.inr ti.nm then ((Sum.inr t.nm : Key), V.ref q') else (Sum.inr t.nm, V.ref q)) :: (kvsOf ts qs).map _ = (Sum.inr t.nm, V.ref q) :: kvsOf ts (qs.set i q')
    rw [if_neg ne, kvs_put0 nd.2 e1]
theorem kvs_put {ts : List Ti} {qs : List Addr} {i : Nat} {ti : Ti} {q q' : Addr} (nd : (ts.map Ti.nm).Nodup) (e1 : ts[i]? = some ti) (e2 : qs[i]? = some q) : putK (kvsOf ts qs) (Sum.inr ti.nm) (V.ref q') = kvsOf ts (qs.set i q') := by
  unfold putK
  rw [if_pos, kvs_put0 nd e1]
  have := valV_any (Sum.inr ti.nm : Key) (kvsOf ts qs)
  rw [this, kvs_find nd e1 e2]
  rfl
theorem first_nm {ts : List Ti} {i : Nat} {ti : Ti} (nd : (ts.map Ti.nm).Nodup) (e : ts[i]? = some ti) : firstAt ts (.str ti.nm) = some i := by
  unfold firstAt
  obtain ⟨lt, e2⟩ := List.getElem?_eq_some_iff.mp e
  refine List.findIdx?_eq_some_iff_getElem.mpr ⟨lt, by rw [e2]; exact beq_self_eq_true _, fun j hj => ?_⟩
  have hj2 : j < ts.length := Nat.lt_trans hj lt
  have ne : ts[j].nm ≠ ti.nm := fun q => by
    have a : (ts.map Ti.nm)[j]'(by rw [List.length_map]; exact hj2) = (ts.map Ti.nm)[i]'(by rw [List.length_map]; exact lt) := by
      rw [List.getElem_map, List.getElem_map, e2, q]
    have i1 := nd.idxOf_getElem j (by rw [List.length_map]; exact hj2)
    have i2 := nd.idxOf_getElem i (by rw [List.length_map]; exact lt)
    rw [a, i2] at i1
    omega
  show ¬ (ti.nm == ts[j].nm) = true
  rw [beq_eq_false_iff_ne.mpr fun q => ne q.symm]
  decide
theorem first_is {ts : List Ti} {t : Tr} {i : Nat} (h : firstAt ts t = some i) : ∃ ti, ts[i]? = some ti ∧ t = .str ti.nm := by
  unfold firstAt at h
  obtain ⟨lt, e, _⟩ := List.findIdx?_eq_some_iff_getElem.mp h
  refine ⟨ts[i], List.getElem?_eq_getElem lt, ?_⟩
  cases t with
  | str x => exact congrArg Tr.str (beq_iff_eq.mp e)
  | _ => exact nomatch e
/-! the methods -/
def spTableOf (K : PySem.W.Frag) (C CT CU : Addr) : Sp := fun vs H Q E => ∃ (st dx tp rd : Addr) (ws : List V) (ts : List Ti) (qs : List Addr) (rss : List (List Row)) (v : V) (t : Tr) (n : Nat) (bs : List Addr), vs = [.ref st, v] ∧ StAt K H C CT st dx tp rd ws ts qs rss ∧ Dt K H v t n bs ∧
  (∀ i w H', firstAt ts t = some i → ws[i]? = some w → Same H H' → Q w H') ∧ (firstAt ts t = none → ∀ d H', Same H H' → H d = none → H' d = some (.xd [("name", v)]) → E (.ref CU) (some d) H')
def spRowsOf (K : PySem.W.Frag) (C CT CU : Addr) : Sp := fun vs H Q E => ∃ (st dx tp rd : Addr) (ws : List V) (ts : List Ti) (qs : List Addr) (rss : List (List Row)) (v : V) (t : Tr) (n : Nat) (bs : List Addr), vs = [.ref st, v] ∧ StAt K H C CT st dx tp rd ws ts qs rss ∧ Dt K H v t n bs ∧
  (∀ i q H', firstAt ts t = some i → qs[i]? = some q → Same H H' → Q (.ref q) H') ∧ (firstAt ts t = none → ∀ d H', Same H H' → H d = none → H' d = some (.xd [("name", v)]) → E (.ref CU) (some d) H')
def spIsChange (K : PySem.W.Frag) (C CT : Addr) : Sp := fun vs H Q _ => ∃ (st dx tp rd : Addr) (ws : List V) (ts : List Ti) (qs : List Addr) (rss : List (List Row)) (v : V) (t : Tr) (n : Nat) (bs : List Addr), vs = [.ref st, v] ∧ StAt K H C CT st dx tp rd ws ts qs rss ∧ Dt K H v t n bs ∧ t.w ≤ 10000 ∧
  ∀ H', Same H H' → Q (.bl (isChg ts t)) H'
/-- what the written part says of the class Store -/
structure TxtS (K : PySem.W.Frag) (mg : Str → Option Value) (C : Addr) (fTO fRO fIC fIP : Addr) : Prop where
  cl : Cls K C
  nT : NoAttr K C "_tables"
  nR : NoAttr K C "_rows"
  gC : mg "Store" = some (.ref C)
  mTO : Meth K C "table_of" fTO
  mRO : Meth K C "rows_of" fRO
  mIC : Meth K C "is_change" fIC
  mIP : Meth K C "is_possible" fIP
section
variable {P : Program} {w : World} {K : PySem.W.Frag} {mg : Str → Option Value} {base : Heap} {fNm fNms fCols fKey C CT CI CU fIU fTN fTO fRO fIC fIP fCO : Addr}
theorem ok_tableof {f : Addr} {fd fdN fdU : FuncData} (F : Fun K "table_of" "Store.table_of" sTableOf f fd) (S : TxtS K mg C fTO fRO fIC fIP)
    (cN : Calls K mg "table_named" fTN) (GN : FnOk P w K mg base CX0 1 fTN fdN ["name", "tables"] (spNamed K CT)) (bN : Binds K fdN ["name", "tables"] [])
    (U : XcT K mg "UnknownTable" CU fIU "LookupError.__new__" Vk.keT "name") (GU : FnOk P w K mg base CX0 1 fIU fdU ["self", "name"] (Vk.spXInit CU "name")) (bU : Binds K fdU ["self", "name"] []) :
    FnOk P w K mg base (L2.CX P w) 3 f fd ["self", "name"] (spTableOf K C CT CU) := by
  refine F.okX scTableOf (fun vs H Q E h => ?_) (fun cdv A outer s H vs Q E hr h => ?_)
  · obtain ⟨st, dx, tp, rd, ws, ts, qs, rss, v, t, n, bs, rfl, _⟩ := h
    rfl
  · obtain ⟨st, dx, tp, rd, ws, ts, qs, rss, v, t, n, bs, rfl, sa, d, k1, k2⟩ := h
    have hr1 : Room 1 _ := hr.mono (by decide)
    refine ⟨_, pss_cons (ps_set (i := 2) scTableOf.nd rfl (Or.inl rfl) (pe_call GN hr1 rfl cN.g cN.k bN .nil pass0 (pa_cons (pv 1) (pa_cons (pe_fld (pv 0) rfl) pa_nil))))
      (pss_cons (ps_if (pt_cmpR op_isN (pv 2) pe_non (nomark _)) (pss_one (ps_raise rfl (takes_of rfl rfl rfl rfl) (Vk.pmk_retX rfl (Vk.pe_xmk Vk.famK U.xc U.iC U.tI GU hr bU rfl U.g (pv 1))))) pss_nil)
      (pss_one (ps_ret (pv 2)))), ?_⟩
    refine ⟨_, rfl, _, rfl, st, C, dx, _, _, rfl, sa.hs, S.cl, S.nT, rfl, v, t, n, bs, tp, ws, ts, rfl, d, sa.ht, sa.tb, fun i w H2 fi hw s2 => ?_, fun fi H2 s2 => ?_⟩
    · obtain ⟨ti, et, a, rfl, tb⟩ := each_get sa.tb hw
      refine ⟨_, rfl, rfl, _, rfl, ?_⟩
      exact iteF ⟨_, rfl, k1 i _ H2 fi hw s2⟩
    · refine ⟨_, rfl, rfl, _, rfl, ?_⟩
      refine iteT ⟨_, rfl, fun e dx2 H3 s3 ne nd xa => ?_⟩
      refine ⟨e, CU, dx2, _, rfl, xa.2.1, xa.2.2, xa.1, fr0_none (s2.free ne), raises_own U.xc.exC U.xc.tyC, ?_⟩
      refine k2 fi dx2 _ (fun b o q => ?_) (s2.free nd) upd_same
      have q2 := s2 b o q
      rw [upd_ne (ne_of_none q2 nd), delH_ne (ne_of_none q2 ne)]
      exact s3 b o q2
theorem ok_rowsof {f : Addr} {fd fdT : FuncData} (F : Fun K "rows_of" "Store.rows_of" sRowsOf f fd) (S : TxtS K mg C fTO fRO fIC fIP) (UT : TxtT K mg CT CI fCols fKey)
    (GT : FnOk P w K mg base (L2.CX P w) 3 fTO fdT ["self", "name"] (spTableOf K C CT CU)) (bT : Binds K fdT ["self", "name"] []) :
    FnOk P w K mg base (L2.CX P w) 4 f fd ["self", "name"] (spRowsOf K C CT CU) := by
  refine F.okX scRowsOf (fun vs H Q E h => ?_) (fun cdv A outer s H vs Q E hr h => ?_)
  · obtain ⟨st, dx, tp, rd, ws, ts, qs, rss, v, t, n, bs, rfl, _⟩ := h
    rfl
  · obtain ⟨st, dx, tp, rd, ws, ts, qs, rss, v, t, n, bs, rfl, sa, d, k1, k2⟩ := h
    have hu : (A.deeper (PyProof.Rows.envOfC "Store.rows_of" (defScope sRowsOf) s.heap.objs.size f cdv)).units + 1 < cLine := by
      have := hr.units
      omega
    refine ⟨_, pss_one (ps_ret (pe_dget hu (pe_fld (pv 0) rfl) (pe_fld (pe_meth (E := E) (pv 0) S.cl S.mTO GT hr bT .nil (passes_call (takes_of rfl rfl rfl rfl) (fun _ _ _ _ h => h)) (pa_cons (pv 1) pa_nil)) rfl) (fun _ _ => rfl))), ?_⟩
    refine ⟨_, rfl, st, C, dx, _, _, rfl, sa.hs, S.cl, S.nR, rfl, _, rfl, st, dx, _, rfl, sa.hs, rfl, _, rfl, st, dx, tp, rd, ws, ts, qs, rss, v, t, n, bs, rfl, sa, d, fun i w H2 fi hw s2 => ?_, fun fi d' H' s' n' e' => k2 fi d' H' s' n' e'⟩
    obtain ⟨ti, et, a, rfl, tb⟩ := each_get sa.tb hw
    obtain ⟨dx2, a2, a3, a4, ha, _⟩ := (tb.same s2).ex
    have lt : i < qs.length := by
      rw [sa.lq]
      exact (List.getElem?_eq_some_iff.mp et).1
    have eq := List.getElem?_eq_getElem lt
    refine ⟨a, CT, dx2, _, _, rfl, ha, UT.cl, UT.n1, rfl, rd, .ref qs[i], rfl, ?_, k1 i _ H2 fi eq s2⟩
    have g := DGet.k (k := (Sum.inr ti.nm : Key)) (s2 _ _ sa.hd)
    rw [kvs_find sa.nd et eq] at g
    exact g
theorem ok_ischange {f : Addr} {fd fdC : FuncData} (F : Fun K "is_change" "Store.is_change" sIsChange f fd) (S : TxtS K mg C fTO fRO fIC fIP)
    (cC : Calls K mg "is_change_of" fCO) (GC : FnOk P w K mg base CX0 3 fCO fdC ["thing", "tables"] (spChangeOf K CT)) (bC : Binds K fdC ["thing", "tables"] []) :
    FnOk P w K mg base CX0 4 f fd ["self", "thing"] (spIsChange K C CT) := by
  refine F.ok scIsChange (fun vs H Q E h => ?_) (fun cdv A outer s H vs Q E hr h => ?_)
  · obtain ⟨st, dx, tp, rd, ws, ts, qs, rss, v, t, n, bs, rfl, _⟩ := h
    rfl
  · obtain ⟨st, dx, tp, rd, ws, ts, qs, rss, v, t, n, bs, rfl, sa, d, tw, k⟩ := h
    refine ⟨_, pss_one (ps_ret (pe_call GC hr rfl cC.g cC.k bC .nil pass0 (pa_cons (pv 1) (pa_cons (pe_fld (pv 0) rfl) pa_nil)))), ?_⟩
    exact ⟨_, rfl, _, rfl, st, C, dx, _, _, rfl, sa.hs, S.cl, S.nT, rfl, v, t, n, bs, tp, ws, ts, rfl, d, tw, sa.ht, sa.tb, k⟩
end
end Vm
/-! is_possible -/
namespace Vm
open PySem L2
def Cell.ofT : Tr → Option Cell
  | .str x => some (.s x)
  | .int n => some (.i n)
  | _ => none
def toRow : Tr → Row
  | .tup us => us.filterMap Cell.ofT
  | _ => []
theorem ofT_t (c : Cell) : Cell.ofT c.t = some c := by cases c <;> rfl
theorem toRow_rowT (r : Row) : toRow (rowT r) = r := by
  show (r.map Cell.t).filterMap Cell.ofT = r
  rw [List.filterMap_map]
  have e : Cell.ofT ∘ Cell.t = some := by
    funext c
    exact ofT_t c
  rw [e, List.filterMap_some]
theorem rowT_inj {r q : Row} (e : rowT r = rowT q) : r = q := by
  rw [← toRow_rowT r, e, toRow_rowT]
/-- data whose items are names and integers -/
theorem cells_of {K : PySem.W.Frag} {H : Hp} {n : Nat} : ∀ {xs : List V} {us : List Tr} {bs : List Addr}, DtAll K H xs us n bs → (∀ u ∈ us, isNm u = true ∨ isNum u = true) → ∃ r : Row, us = r.map Cell.t ∧ xs = r.map Cell.v
  | _, _, _, .nil, _ => ⟨[], rfl, rfl⟩
  | _, u :: us, _, .cons h t, al => by
    obtain ⟨r, e1, e2⟩ := cells_of t fun u m => al u (List.mem_cons_of_mem _ m)
    rw [e1, e2]
    rcases al u List.mem_cons_self with a | a
    · cases h with
      | str _ _ => exact ⟨.s _ :: r, rfl, rfl⟩
      | _ => exact nomatch a
    · cases h with
      | int _ => exact ⟨.i _ :: r, rfl, rfl⟩
      | _ => exact nomatch a
theorem isRow_row {ti : Ti} {r : Row} (h : isRow ti.ss.length ti.zs.length (rowT r) = true) : Row.ok ti r := by
  have h' : (decide ((r.map Cell.t).length = ti.ss.length + ti.zs.length) && (((r.map Cell.t).take ti.ss.length).all isNm && ((r.map Cell.t).drop ti.ss.length).all isNum)) = true := h
  rw [Bool.and_eq_true, Bool.and_eq_true, decide_eq_true_eq, List.length_map, List.all_eq_true, List.all_eq_true] at h'
  obtain ⟨h1, h2, h3⟩ := h'
  refine ⟨h1, fun i c e => ?_⟩
  have em : (r.map Cell.t)[i]? = some c.t := by
    rw [List.getElem?_map, e]
    rfl
  by_cases lt : i < ti.ss.length
  · rw [decide_eq_true lt]
    have m : c.t ∈ (r.map Cell.t).take ti.ss.length := List.mem_of_getElem? (i := i) (by rw [List.getElem?_take_of_lt lt]; exact em)
    have := h2 _ m
    cases c with
    | s x => exact this
    | i n => exact nomatch this
  · rw [decide_eq_false lt]
    have m : c.t ∈ (r.map Cell.t).drop ti.ss.length := List.mem_of_getElem? (i := i - ti.ss.length) (by rw [List.getElem?_drop, show ti.ss.length + (i - ti.ss.length) = i by omega]; exact em)
    have := h3 _ m
    cases c with
    | s x => exact nomatch this
    | i n => rfl
theorem row_isRow {ti : Ti} {r : Row} (h : Row.ok ti r) : isRow ti.ss.length ti.zs.length (rowT r) = true := by
  show (decide ((r.map Cell.t).length = ti.ss.length + ti.zs.length) && (((r.map Cell.t).take ti.ss.length).all isNm && ((r.map Cell.t).drop ti.ss.length).all isNum)) = true
  rw [Bool.and_eq_true, Bool.and_eq_true, decide_eq_true_eq, List.length_map, List.all_eq_true, List.all_eq_true]
  refine ⟨h.len, fun t m => ?_, fun t m => ?_⟩
  · obtain ⟨i, e⟩ := List.mem_iff_getElem?.mp m
    by_cases lt : i < ti.ss.length
    · rw [List.getElem?_take_of_lt lt, List.getElem?_map] at e
      cases q : r[i]? with
      | none => rw [q] at e; cases e
      | some c =>
        rw [q] at e
        obtain rfl := Option.some.inj e
        have := h.cell i c q
        rw [decide_eq_true lt] at this
        cases c with
        | s x => exact this
        | i n => exact nomatch this
    · rw [List.getElem?_take_eq_none (by omega)] at e
      cases e
  · obtain ⟨i, e⟩ := List.mem_iff_getElem?.mp m
    rw [List.getElem?_drop, List.getElem?_map] at e
    cases q : r[ti.ss.length + i]? with
    | none => rw [q] at e; cases e
    | some c =>
      rw [q] at e
      obtain rfl := Option.some.inj e
      have := h.cell _ c q
      rw [decide_eq_false (by omega)] at this
      cases c with
      | s x => exact nomatch this
      | i n => rfl
/-- data that is a row of the table -/
theorem Dt.row {K : PySem.W.Frag} {H : Hp} {v : V} {t : Tr} {n : Nat} {bs : List Addr} {ti : Ti} (g : ti.ok) (d : Dt K H v t n bs) (h : isRow ti.ss.length ti.zs.length t = true) : ∃ r, RwAt H v r ∧ Row.ok ti r ∧ t = rowT r := by
  have tt : isTup t = true := by cases t <;> first | rfl | exact nomatch h
  obtain ⟨a, xs, ts, m, cs, rfl, rfl, _, te, ds, _⟩ := d.tupD tt
  have h' : (decide (ts.length = ti.ss.length + ti.zs.length) && ((ts.take ti.ss.length).all isNm && (ts.drop ti.ss.length).all isNum)) = true := h
  rw [Bool.and_eq_true, Bool.and_eq_true, decide_eq_true_eq, List.all_eq_true, List.all_eq_true] at h'
  obtain ⟨h1, h2, h3⟩ := h'
  obtain ⟨r, e1, e2⟩ := cells_of ds fun u hu => by
    rw [← List.take_append_drop ti.ss.length ts] at hu
    rcases List.mem_append.mp hu with m | m
    · exact .inl (h2 u m)
    · exact .inr (h3 u m)
  subst e1
  have ok : Row.ok ti r := isRow_row h
  refine ⟨r, ?_, ok, rfl⟩
  subst e2
  rcases te with ⟨e, _⟩ | ⟨o, e, hd⟩
  · have := ok.len
    have l0 := congrArg List.length e
    rw [List.length_map] at l0
    have := g.ne
    rw [List.length_append] at this
    have l1 : ([] : List V).length = 0 := rfl
    omega
  · exact ⟨a, o, rfl, e, hd⟩
theorem rows_of_dt {K : PySem.W.Frag} {H : Hp} {n : Nat} {ti : Ti} (g : ti.ok) : ∀ {xs : List V} {us : List Tr} {bs : List Addr}, DtAll K H xs us n bs → us.all (isRow ti.ss.length ti.zs.length) = true → ∃ rs, RowsAt H xs rs ∧ (∀ r ∈ rs, Row.ok ti r) ∧ us = rs.map rowT
  | _, _, _, .nil, _ => ⟨[], .nil, (fun _ h => nomatch h), rfl⟩
  | _, u :: us, _, .cons h t, al => by
    rw [List.all_cons, Bool.and_eq_true] at al
    obtain ⟨rs, a, b, c⟩ := rows_of_dt g t al.2
    obtain ⟨r, a1, b1, c1⟩ := h.row g al.1
    refine ⟨r :: rs, .cons a1 a, fun q m => ?_, by rw [c, c1]; rfl⟩
    rcases List.mem_cons.mp m with e | m
    · rw [e]
      exact b1
    · exact b q m
/-- whether a change is possible -/
def posL (ts : List Ti) (rss : List (List Row)) : List Tr → Bool
  | .str kd :: nm :: us => (match firstAt ts nm with
    | some i => (match ts[i]?, rss[i]? with
      | some ti, some rs => possR ti kd (us.map toRow) rs
      | _, _ => false)
    | none => false)
  | _ => false
def posT (ts : List Ti) (rss : List (List Row)) : Tr → Bool
  | .tup us => posL ts rss us
  | _ => false
/-- what a change is -/
theorem chg_is {ts : List Ti} {t : Tr} (h : isChg ts t = true) : ∃ kd i ti us, t = .tup (.str kd :: .str ti.nm :: us) ∧ ts[i]? = some ti ∧ firstAt ts (.str ti.nm) = some i ∧ us.all (isRow ti.ss.length ti.zs.length) = true ∧ lenV kd = .int ((us.length + 2 : Nat) : Int) ∧ 0 < us.length := by
  cases t with
  | tup l =>
    have h1 : chgL ts l = true := h
    match l, h1 with
    | k :: nm :: r :: rs, h1 =>
      have h2 : chgK ts nm (r :: rs) k = true := h1
      cases k with
      | str kd =>
        have h3 : (decide (lenV kd = .int (((r :: rs).length + 2 : Nat) : Int)) && rowsOk ts nm (r :: rs)) = true := h2
        rw [Bool.and_eq_true, decide_eq_true_eq] at h3
        obtain ⟨h4, h5⟩ := h3
        unfold rowsOk at h5
        cases fi : firstAt ts nm with
        | none => rw [fi] at h5; cases h5
        | some i =>
          rw [fi] at h5
          obtain ⟨ti, et, rfl⟩ := first_is fi
          have h6 : (match ts[i]? with | some ti => (r :: rs).all (isRow ti.ss.length ti.zs.length) | none => false) = true := h5
          rw [et] at h6
          exact ⟨kd, i, ti, r :: rs, rfl, et, fi, h6, h4, Nat.succ_pos _⟩
      | _ => exact nomatch h2
  | _ => exact nomatch h
theorem lenV_le {kd : Str} {n : Nat} (h : lenV kd = .int ((n + 2 : Nat) : Int)) : n ≤ 2 ∧ (n = 1 ∨ n = 2) := by
  unfold lenV at h
  split at h
  · have := V.int.inj h
    omega
  · split at h
    · have := V.int.inj h
      omega
    · split at h
      · have := V.int.inj h
        omega
      · cases h
end Vm
/-! is_possible, do -/
namespace Vm
open PySem L2
/-- the rows of each table fit -/
def Fit (N : Nat) (ts : List Ti) (rss : List (List Row)) : Prop := ∀ (i : Nat) (ti : Ti) (rs : List Row), ts[i]? = some ti → rss[i]? = some rs → ti.ok ∧ (∀ r ∈ rs, Row.ok ti r) ∧ rs.length ≤ N
def spIsPossible (K : PySem.W.Frag) (C CT CIC : Addr) : Sp := fun vs H Q E => ∃ (N : Nat) (st dx tp rd : Addr) (ws : List V) (ts : List Ti) (qs : List Addr) (rss : List (List Row)) (v : V) (t : Tr) (n : Nat) (bs : List Addr), vs = [.ref st, v] ∧ StAt K H C CT st dx tp rd ws ts qs rss ∧ Dt K H v t n bs ∧ t.w ≤ 10000 ∧ Fit N ts rss ∧ N ≤ 90 ∧
  (isChg ts t = true → ∀ H', Same H H' → Q (.bl (posT ts rss t)) H') ∧ (isChg ts t = false → ∀ d H', Same H H' → H d = none → H' d = some (.xd [("change", v)]) → E (.ref CIC) (some d) H')
/-- a change, as it lies -/
theorem chg_at {K : PySem.W.Frag} {H : Hp} {v : V} {t : Tr} {n : Nat} {bs : List Addr} {ts : List Ti} {rss : List (List Row)} {N : Nat} (fit : Fit N ts rss) (lr : rss.length = ts.length) (d : Dt K H v t n bs) (h : isChg ts t = true) :
    ∃ (p : Addr) (kd : Str) (i : Nat) (ti : Ti) (xs : List V) (us rs : List Row), v = .ref p ∧ t = .tup (.str kd :: .str ti.nm :: us.map rowT) ∧ SqT K H p (.str kd :: .str ti.nm :: xs) ∧ RowsAt H xs us ∧ ts[i]? = some ti ∧ rss[i]? = some rs ∧ firstAt ts (.str ti.nm) = some i ∧
      (∀ r ∈ us, Row.ok ti r) ∧ lenV kd = .int ((us.length + 2 : Nat) : Int) ∧ (us.length = 1 ∨ us.length = 2) ∧ posT ts rss t = possR ti kd us rs ∧ ∃ m cs, Dt K H (.str ti.nm) (.str ti.nm) m cs := by
  obtain ⟨kd, i, ti, us, rfl, et, fi, al, hl, u0⟩ := chg_is h
  obtain ⟨a, xs, ts', m, cs, rfl, e1, _, te, ds, _⟩ := d.tupD rfl
  obtain rfl := Tr.tup.inj e1
  cases ds with
  | cons d1 ds =>
  cases ds with
  | cons d2 ds =>
  rename_i c1 _ c2 c3
  cases d1
  have dn : ∃ m cs, Dt K H (.str ti.nm) (.str ti.nm) m cs := by
    cases d2 with
    | str h hz => exact ⟨0, [], .str h hz⟩
  cases d2
  have lt : i < rss.length := by
    rw [lr]
    exact (List.getElem?_eq_some_iff.mp et).1
  have er := List.getElem?_eq_getElem lt
  obtain ⟨g, _, _⟩ := fit i ti _ et er
  obtain ⟨rs, ra, ro, e⟩ := rows_of_dt g ds al
  have ll : us.length = rs.length := by rw [e, List.length_map]
  refine ⟨a, kd, i, ti, _, rs, rss[i], rfl, by rw [e], te.sq, ra, et, er, fi, ro, by rw [← ll]; exact hl, ?_, ?_, dn⟩
  · rw [← ll]
    exact (lenV_le hl).2
  · show (match firstAt ts (.str ti.nm) with | some i => (match ts[i]?, rss[i]? with | some ti, some rs => possR ti kd (us.map toRow) rs | _, _ => false) | none => false) = _
    rw [fi]
    show (match ts[i]?, rss[i]? with | some ti, some rs => possR ti kd (us.map toRow) rs | _, _ => false) = _
    rw [et, er]
    show possR ti kd (us.map toRow) rss[i] = _
    rw [e, List.map_map]
    have : toRow ∘ rowT = id := by
      funext r
      exact toRow_rowT r
    rw [this, List.map_id]
section
variable {P : Program} {w : World} {K : PySem.W.Frag} {mg : Str → Option Value} {base : Heap} {fNm fNms fCols fKey C CT CI CU CIC fIU fII fTN fTO fRO fIC fIP fPI fAf : Addr}
theorem ok_ispossible {f : Addr} {fd fdC fdT fdR fdP fdI : FuncData} (F : Fun K "is_possible" "Store.is_possible" sIsPossible f fd) (S : TxtS K mg C fTO fRO fIC fIP)
    (GC : FnOk P w K mg base CX0 4 fIC fdC ["self", "thing"] (spIsChange K C CT)) (bC : Binds K fdC ["self", "thing"] [])
    (GT : FnOk P w K mg base (L2.CX P w) 3 fTO fdT ["self", "name"] (spTableOf K C CT CU)) (bT : Binds K fdT ["self", "name"] [])
    (GR : FnOk P w K mg base (L2.CX P w) 4 fRO fdR ["self", "name"] (spRowsOf K C CT CU)) (bR : Binds K fdR ["self", "name"] [])
    (cP : Calls K mg "is_possible_in" fPI) (GP : FnOk P w K mg base CX0 5 fPI fdP ["change", "table", "rows"] (spPossIn K CT)) (bP : Binds K fdP ["change", "table", "rows"] [])
    (U : XcT K mg "InvalidChange" CIC fII "ValueError.__new__" Vk.veT "change") (GI : FnOk P w K mg base CX0 1 fII fdI ["self", "change"] (Vk.spXInit CIC "change")) (bI : Binds K fdI ["self", "change"] []) :
    FnOk P w K mg base (L2.CX P w) 6 f fd ["self", "change"] (spIsPossible K C CT CIC) := by
  refine F.okX scIsPossible (fun vs H Q E h => ?_) (fun cdv A outer s H vs Q E hr h => ?_)
  · obtain ⟨N, st, dx, tp, rd, ws, ts, qs, rss, v, t, n, bs, rfl, _⟩ := h
    rfl
  · obtain ⟨N, st, dx, tp, rd, ws, ts, qs, rss, v, t, n, bs, rfl, sa, d, tw, fit, N90, k1, k2⟩ := h
    have hr2 : Room 2 _ := hr.mono (by decide)
    have hr3 : Room 3 _ := hr.mono (by decide)
    have hr4 : Room 4 _ := hr.mono (by decide)
    refine ⟨_, pss_cons (ps_if (pt_not (pt_val (pe_meth (pv 0) S.cl S.mIC GC hr4 bC .nil pass0 (pa_cons (pv 1) pa_nil)))) (pss_one (ps_raise rfl (takes_of rfl rfl rfl rfl) (Vk.pmk_retX rfl (Vk.pe_xmk Vk.famV U.xc U.iC U.tI GI hr2 bI rfl U.g (pv 1))))) pss_nil)
      (pss_cons (ps_set (i := 2) scIsPossible.nd rfl (Or.inl rfl) (pe_ix ix_tup (pv 1) pe_int (fun _ _ => rfl)))
      (pss_one (ps_ret (pe_call GP hr rfl cP.g cP.k bP .nil pass0 (pa_cons (pv 1)
        (pa_cons (pe_meth (E := E) (pv 0) S.cl S.mTO GT hr3 bT .nil (passes_call (takes_of rfl rfl rfl rfl) (fun _ _ _ _ h => h)) (pa_cons (pv 2) pa_nil))
        (pa_cons (pe_meth (E := E) (pv 0) S.cl S.mRO GR hr4 bR .nil (passes_call (takes_of rfl rfl rfl rfl) (fun _ _ _ _ h => h)) (pa_cons (pv 2) pa_nil)) pa_nil))))))), ?_⟩
    have meth : ∀ {H'}, Same H H' → H' st = some (.ins C dx [("_tables", .ref tp), ("_rows", .ref rd)]) := fun s' => s' _ _ sa.hs
    refine ⟨_, rfl, st, dx, _, rfl, sa.hs, rfl, _, rfl, st, dx, tp, rd, ws, ts, qs, rss, v, t, n, bs, rfl, sa, d, tw, fun H1 s1 => ⟨_, rfl, ?_⟩⟩
    cases hc : isChg ts t with
    | false =>
      refine iteT ⟨_, rfl, fun e dx2 H3 s3 ne nd xa => ?_⟩
      refine ⟨e, CIC, dx2, _, rfl, xa.2.1, xa.2.2, xa.1, fr0_none (s1.free ne), raises_own U.xc.exC U.xc.tyC, ?_⟩
      refine k2 hc dx2 _ (fun b o q => ?_) (s1.free nd) upd_same
      have q2 := s1 b o q
      rw [upd_ne (ne_of_none q2 nd), delH_ne (ne_of_none q2 ne)]
      exact s3 b o q2
    | true =>
      refine iteF ?_
      have k1 := k1 hc
      have lrw : rss.length = ts.length := by rw [← sa.rw.length, sa.lq]
      obtain ⟨p, kd, i, ti, xs, us, rs, rfl, et', hp, hxs, et, er, fi, o1, hl, l12, pe, m, cs, dn⟩ := chg_at fit lrw d hc
      rw [pe] at k1
      obtain ⟨g, o2, few⟩ := fit i ti rs et er
      have lt : i < ws.length := by
        rw [sa.tb.length]
        exact (List.getElem?_eq_some_iff.mp et).1
      have ew := List.getElem?_eq_getElem lt
      have lq : i < qs.length := by
        rw [sa.lq]
        exact (List.getElem?_eq_some_iff.mp et).1
      have eq := List.getElem?_eq_getElem lq
      obtain ⟨ti', et2, a, ea, tb⟩ := each_get sa.tb ew
      rw [et] at et2
      obtain rfl := Option.some.inj et2
      obtain ⟨rs', er2, ob, ys, hq, hd, hys⟩ := each_get sa.rw eq
      rw [er] at er2
      obtain rfl := Option.some.inj er2
      refine ⟨_, rfl, p, _, ((1 : Nat) : Int), .str ti.nm, rfl, rfl, sameT s1 hp, atI_nat rfl, ?_⟩
      refine ⟨_, rfl, _, rfl, st, dx, _, rfl, meth s1, rfl, _, rfl, st, dx, tp, rd, ws, ts, qs, rss, .str ti.nm, .str ti.nm, m, cs, rfl, sa.same s1, dn.keep (fun b _ o e => s1 b o e), fun i2 w2 H2 fi2 ew2 s2 => ?_, fun fi2 => by rw [fi] at fi2; cases fi2⟩
      rw [fi] at fi2
      obtain rfl := Option.some.inj fi2
      rw [ew] at ew2
      obtain rfl := Option.some.inj ew2
      have s12 := s1.trans s2
      refine ⟨_, rfl, st, dx, _, rfl, meth s12, rfl, _, rfl, st, dx, tp, rd, ws, ts, qs, rss, .str ti.nm, .str ti.nm, m, cs, rfl, sa.same s12, dn.keep (fun b _ o e => s12 b o e), fun i3 q3 H3 fi3 eq3 s3 => ?_, fun fi3 => by rw [fi] at fi3; cases fi3⟩
      rw [fi] at fi3
      obtain rfl := Option.some.inj fi3
      rw [eq] at eq3
      obtain rfl := Option.some.inj eq3
      have s13 := s12.trans s3
      rw [ea]
      exact ⟨p, a, _, kd, .str ti.nm, xs, ys, us, rs, ti, rfl, sameT s13 hp, hxs.keep (.of_same s13), tb.same s13, .inl (.inr ⟨ob, s13 _ _ hq⟩), hys.keep (.of_same s13), o1, o2, by omega, by omega, fun H4 s4 => k1 H4 (s13.trans s4)⟩
end
end Vm
/-! do -/
namespace Vm
open PySem L2 StX
/-! data of tuples, texts, integers alone: it stays where tuples stay -/
mutual
def pureT : Tr → Bool
  | .lst _ => false
  | .dct _ _ => false
  | .tup ts => pureTs ts
  | _ => true
def pureTs : List Tr → Bool
  | [] => true
  | t :: r => pureT t && pureTs r
end
mutual
theorem Dt.fz {K : PySem.W.Frag} {H H' : Hp} (k : Fz H H') : ∀ {v : V} {t : Tr} {n : Nat} {bs : List Addr}, Dt K H v t n bs → pureT t = true → Dt K H' v t n bs
  | _, _, _, _, .non, _ => .non
  | _, _, _, _, .bl b, _ => .bl b
  | _, _, _, _, .int h, _ => .int h
  | _, _, _, _, .str h hz, _ => .str h hz
  | _, _, _, _, .lst h r na, p => nomatch p
  | _, _, _, _, .emp h, _ => .emp h
  | _, _, _, _, .tup h nd r na, p => .tup (k _ _ _ h) nd (DtAll.fz k r p) na
  | _, _, _, _, .dct h kf r na, p => nomatch p
theorem DtAll.fz {K : PySem.W.Frag} {H H' : Hp} (k : Fz H H') : ∀ {v : List V} {t : List Tr} {n : Nat} {bs : List Addr}, DtAll K H v t n bs → pureTs t = true → DtAll K H' v t n bs
  | _, _, _, _, .nil, _ => .nil
  | _, t :: ts, _, _, .cons h r, p => by
    have p' : (pureT t && pureTs ts) = true := p
    rw [Bool.and_eq_true] at p'
    exact .cons (h.fz k p'.1) (r.fz k p'.2)
end
theorem pure_cells : ∀ r : Row, pureTs (r.map Cell.t) = true
  | [] => rfl
  | .s x :: r => by
    show (true && pureTs (r.map Cell.t)) = true
    rw [pure_cells r]
    rfl
  | .i x :: r => by
    show (true && pureTs (r.map Cell.t)) = true
    rw [pure_cells r]
    rfl
theorem pure_row (r : Row) : pureT (rowT r) = true := pure_cells r
theorem pure_rows : ∀ rs : List Row, pureTs (rs.map rowT) = true
  | [] => rfl
  | r :: rs => by
    show (pureT (rowT r) && pureTs (rs.map rowT)) = true
    rw [pure_row, pure_rows rs]
    rfl
/-- the tables' rows behind a change -/
def stepL (ts : List Ti) (rss : List (List Row)) : List Tr → List (List Row)
  | .str kd :: nm :: us => (match firstAt ts nm with
    | some i => (match rss[i]? with
      | some rs => rss.set i (afterR kd (us.map toRow) rs)
      | none => rss)
    | none => rss)
  | _ => rss
def stepT (ts : List Ti) (rss : List (List Row)) (t : Tr) : List (List Row) := if posT ts rss t then (match t with
  | .tup us => stepL ts rss us
  | _ => rss) else rss
def stepsT (ts : List Ti) (rss : List (List Row)) (us : List Tr) : List (List Row) := us.foldl (stepT ts) rss
def boolsT (ts : List Ti) (rss : List (List Row)) : List Tr → List Bool
  | [] => []
  | t :: r => posT ts rss t :: boolsT ts (stepT ts rss t) r
theorem bools_snoc (ts : List Ti) (t : Tr) : ∀ (us : List Tr) (rss : List (List Row)), boolsT ts rss (us ++ [t]) = boolsT ts rss us ++ [posT ts (stepsT ts rss us) t]
  | [], _ => rfl
  | u :: us, rss => by
    show posT ts rss u :: boolsT ts (stepT ts rss u) (us ++ [t]) = posT ts rss u :: (boolsT ts (stepT ts rss u) us ++ [posT ts (stepsT ts (stepT ts rss u) us) t])
    rw [bools_snoc ts t us]
theorem steps_snoc (ts : List Ti) (t : Tr) (us : List Tr) (rss : List (List Row)) : stepsT ts rss (us ++ [t]) = stepT ts (stepsT ts rss us) t := by
  unfold stepsT
  rw [List.foldl_append]
  rfl
theorem bools_len (ts : List Ti) : ∀ (us : List Tr) (rss : List (List Row)), (boolsT ts rss us).length = us.length
  | [], _ => rfl
  | u :: us, rss => congrArg (· + 1) (bools_len ts us (stepT ts rss u))
/-- all but the store's dict of rows stands as before -/
def Du (rd : Addr) (H H' : Hp) : Prop := ∀ b o, b ≠ rd → H b = some o → H' b = some o
theorem Du.of_same {rd : Addr} {H H' : Hp} (k : Same H H') : Du rd H H' := fun b o _ e => k b o e
theorem Du.trans {rd : Addr} {H H1 H2 : Hp} (a : Du rd H H1) (b : Du rd H1 H2) : Du rd H H2 := fun c o n e => b c o n (a c o n e)
theorem Du.fz {rd : Addr} {H H' : Hp} {kvs : List (Key × V)} (k : Du rd H H') (h : H rd = some (.dK kvs)) : Fz H H' := fun b o xs e => k b _ (fun q => by
  rw [q, h] at e
  cases e) e
/-- a method's call, its promise by position -/
def tMethR (C : Addr) (m : Str) (sp : Sp) (E : XK) (ta : TE) (t : TA) : TE := fun σ H Q => ta σ H fun x H1 => ∃ (a dx : Addr) (fs : List (Str × V)), x = .ref a ∧ H1 a = some (.ins C dx fs) ∧ fs.lookup m = none ∧ t σ H1 fun vs H2 => sp (.ref a :: vs) H2 Q E
section
variable {X : Cx} {CX : CXT} {k : Nat} {f C : Addr} {sp : Sp} {E : XK} {m : Str} {pos apos : Pos} {o e : Expr} {es : List Expr} {ta : TE} {t : TA}
theorem pe_methR {pl : Sem Bool} (he : PE X o ta) (c : Cls X.K C) (hm : Meth X.K C m f) (F : FnR X.prog X.w X.K X.mg X.base CX k f sp) (hr : Room k X.A) (hx : Passes CX X E) (ha : PA X (e :: es) t)
    (hst : starEach (e :: es) X.env = (false, eval e X.env) :: starEach es X.env := by rfl) (hpl : (backTo pos (starEach es X.env)).any (·.1) = false := by rfl)
    (ht : eval (.Call (.Attribute o m apos) (e :: es) [] pos) X.env = (do
      let ov ← eval o X.env
      standAt apos.atName
      let (f, first) ← holding [ov] (getMethod ov m pl)
      callWith pos f first (backTo pos (starEach (e :: es) X.env)) (backToKw pos (keywordEach [] X.env))) := by rfl) :
    PE X (.Call (.Attribute o m apos) (e :: es) [] pos) (tMethR C m sp E ta t) := by
  refine ⟨fun pins s σ H Q I h => ?_⟩
  refine PySem.W.methodCall_KW (pl := pl) (thn (he.run pins s σ H _ I h) fun u s1 ⟨x, H1, I1, rx, a, dx, fs, ex, ea, l, q⟩ => ?_) ht
  subst ex
  obtain rfl : u = Value.ref a := rx
  refine getmeth_ok I1 ea c hm l ?_
  refine PySem.W.callWith_K (first := [.ref a]) (h₀ := X.base) I.ok.mod.kin hm.kp (thn (ha.run pos pins s1 σ H1 _ I1 q) fun us s2 ⟨vs, H2, I2, r, q2⟩ => ⟨I2.kIn, ?_⟩) hst hpl
  exact wpAny_call (run_fnR (us := .ref a :: us) (vs := .ref a :: vs) F hr hx I2 (.cons rfl r) q2)
end
end Vm
namespace Vm
open PySem L2 StX
theorem pure_names : ∀ {us : List Tr}, (∀ u ∈ us, isNm u = true ∨ isNum u = true) → pureTs us = true
  | [], _ => rfl
  | u :: us, h => by
    show (pureT u && pureTs us) = true
    rw [pure_names fun x m => h x (List.mem_cons_of_mem _ m), Bool.and_true]
    rcases h u List.mem_cons_self with a | a <;> cases u <;> first | rfl | exact nomatch a
theorem isRow_pure {a b : Nat} {t : Tr} (h : isRow a b t = true) : pureT t = true := by
  cases t with
  | tup ts =>
    have h' : (decide (ts.length = a + b) && ((ts.take a).all isNm && (ts.drop a).all isNum)) = true := h
    rw [Bool.and_eq_true, Bool.and_eq_true, decide_eq_true_eq, List.all_eq_true, List.all_eq_true] at h'
    obtain ⟨h1, h2, h3⟩ := h'
    show pureTs ts = true
    refine pure_names fun u hu => ?_
    rw [← List.take_append_drop a ts] at hu
    rcases List.mem_append.mp hu with m | m
    · exact .inl (h2 u m)
    · exact .inr (h3 u m)
  | _ => exact nomatch h
theorem pure_all : ∀ {us : List Tr}, (∀ u ∈ us, pureT u = true) → pureTs us = true
  | [], _ => rfl
  | u :: us, h => by
    show (pureT u && pureTs us) = true
    rw [h u List.mem_cons_self, pure_all fun x m => h x (List.mem_cons_of_mem _ m)]
    rfl
theorem chg_pure {ts : List Ti} {t : Tr} (h : isChg ts t = true) : pureT t = true := by
  obtain ⟨kd, i, ti, us, rfl, _, _, al, _⟩ := chg_is h
  show pureTs us = true
  refine pure_all fun u m => isRow_pure (List.all_eq_true.mp al u m)
theorem poss_true {ti : Ti} {kd : Str} {us rs : List Row} (h : possR ti kd us rs = true) : True := trivial
theorem after_len {kd : Str} {us rs : List Row} (h : lenV kd = .int ((us.length + 2 : Nat) : Int)) : (afterR kd us rs).length ≤ rs.length + 1 := by
  unfold afterR
  rw [(sortR_perm _).length_eq, List.length_append]
  have a : (leftR kd us rs).length ≤ rs.length := List.length_filter_le _ _
  have b : (putR kd us).length ≤ 1 := by
    have l2 := (lenV_le h).2
    unfold putR
    by_cases e : kd = insS
    · rw [if_pos e]
      unfold lenV at h
      rw [if_pos e] at h
      have := V.int.inj h
      omega
    · rw [if_neg e, List.length_drop]
      omega
  omega
theorem step_is {ts : List Ti} {rss : List (List Row)} {i : Nat} {ti : Ti} {kd : Str} {us rs : List Row} {t : Tr} (et : t = .tup (.str kd :: .str ti.nm :: us.map rowT)) (fi : firstAt ts (.str ti.nm) = some i) (er : rss[i]? = some rs) (h : posT ts rss t = true) : stepT ts rss t = rss.set i (afterR kd us rs) := by
  unfold stepT
  rw [if_pos h, et]
  show (match firstAt ts (.str ti.nm) with | some i => (match rss[i]? with | some rs => rss.set i (afterR kd ((us.map rowT).map toRow) rs) | none => rss) | none => rss) = _
  rw [fi]
  show (match rss[i]? with | some rs => rss.set i (afterR kd ((us.map rowT).map toRow) rs) | none => rss) = _
  rw [er]
  show rss.set i (afterR kd ((us.map rowT).map toRow) rs) = _
  rw [List.map_map]
  have : toRow ∘ rowT = id := by
    funext r
    exact toRow_rowT r
  rw [this, List.map_id]
theorem step_no {ts : List Ti} {rss : List (List Row)} {t : Tr} (h : posT ts rss t = false) : stepT ts rss t = rss := by
  unfold stepT
  rw [if_neg (by rw [h]; decide)]
theorem Fit.up {N M : Nat} {ts : List Ti} {rss : List (List Row)} (h : Fit N ts rss) (l : N ≤ M) : Fit M ts rss := fun i ti rs a b => let ⟨x, y, z⟩ := h i ti rs a b; ⟨x, y, Nat.le_trans z l⟩
theorem Fit.set {N : Nat} {ts : List Ti} {rss : List (List Row)} {i : Nat} {ti : Ti} {rs : List Row} (h : Fit N ts rss) (et : ts[i]? = some ti) (hr : ∀ r ∈ rs, Row.ok ti r) (hl : rs.length ≤ N + 1) : Fit (N + 1) ts (rss.set i rs) := by
  intro j tj rj a b
  rw [List.getElem?_set] at b
  split at b
  · rename_i e
    subst e
    split at b
    · obtain rfl := Option.some.inj b
      rw [et] at a
      obtain rfl := Option.some.inj a
      have lt := (List.getElem?_eq_some_iff.mp et).1
      rename_i lr
      obtain ⟨x, _, _⟩ := h i ti rss[i] et (List.getElem?_eq_getElem lr)
      exact ⟨x, hr, hl⟩
    · cases b
  · obtain ⟨x, y, z⟩ := h j tj rj a b
    exact ⟨x, y, Nat.le_succ_of_le z⟩
theorem after_ok {ti : Ti} {kd : Str} {us rs : List Row} (o1 : ∀ r ∈ us, Row.ok ti r) (o2 : ∀ r ∈ rs, Row.ok ti r) : ∀ r ∈ afterR kd us rs, Row.ok ti r := fun r m => by
  have m' := (sortR_perm _).mem_iff.mp m
  rcases List.mem_append.mp m' with m | m
  · exact o2 r (List.mem_filter.mp m).1
  · exact o1 r (put_sub m)
def spDo (K : PySem.W.Frag) (C CT CIC : Addr) : Sp := fun vs H Q E => ∃ (N : Nat) (st dx tp rd p : Addr) (ws : List V) (ts : List Ti) (qs : List Addr) (rss : List (List Row)) (xs : List V) (us : List Tr), vs = [.ref st, .ref p] ∧ StAt K H C CT st dx tp rd ws ts qs rss ∧ SqT K H p xs ∧
  PySem.W.EachIs (fun v t => (∃ n bs, Dt K H v t n bs) ∧ t.w ≤ 10000) xs us ∧ us.length ≤ 20 ∧ Fit N ts rss ∧ N + us.length ≤ 90 ∧
  ((∀ t ∈ us, isChg ts t = true) → ∀ H' q qs', Du rd H H' → H q = none → (∃ o : Obj, H' q = some (.frz o (.tup ((boolsT ts rss us).map V.bl))) ∧ o.dict = none) → StAt K H' C CT st dx tp rd ws ts qs' (stepsT ts rss us) → Fit (N + us.length) ts (stepsT ts rss us) → Q (.ref q) H') ∧
  (∀ (i : Nat) v t, xs[i]? = some v → us[i]? = some t → isChg ts t = false → (∀ j, j < i → ∀ tj, us[j]? = some tj → isChg ts tj = true) → ∀ d H', Same H H' → H d = none → H' d = some (.xd [("change", v)]) → E (.ref CIC) (some d) H')
section
variable {P : Program} {w : World} {K : PySem.W.Frag} {mg : Str → Option Value} {base : Heap} {fNm fNms fCols fKey C CT CI CU CIC fIU fII fTN fTO fRO fIC fIP fPI fAf : Addr}
theorem ok_do {f : Addr} {fd fdC fdR fdP fdA fdI : FuncData} (F : Fun K "do" "Store.do" sDo f fd) (S : TxtS K mg C fTO fRO fIC fIP) (tuple : mg "tuple" = none)
    (GC : FnOk P w K mg base CX0 4 fIC fdC ["self", "thing"] (spIsChange K C CT)) (bC : Binds K fdC ["self", "thing"] [])
    (GR : FnOk P w K mg base (L2.CX P w) 4 fRO fdR ["self", "name"] (spRowsOf K C CT CU)) (bR : Binds K fdR ["self", "name"] [])
    (GP : FnOk P w K mg base (L2.CX P w) 6 fIP fdP ["self", "change"] (spIsPossible K C CT CIC)) (bP : Binds K fdP ["self", "change"] [])
    (cA : Calls K mg "rows_after" fAf) (GA : FnOk P w K mg base CX0 2 fAf fdA ["change", "rows"] (spAfter K)) (bA : Binds K fdA ["change", "rows"] [])
    (U : XcT K mg "InvalidChange" CIC fII "ValueError.__new__" Vk.veT "change") (GI : FnOk P w K mg base CX0 1 fII fdI ["self", "change"] (Vk.spXInit CIC "change")) (bI : Binds K fdI ["self", "change"] []) :
    FnR P w K mg base (L2.CX P w) 7 f (fun vs H Q E => ∃ ws rest, vs = ws ++ rest ∧ ws.length = (["self"] : List Str).length ∧ rest.length ≤ sizeLine ∧ ∀ p, H p = Option.none → spDo K C CT CIC (ws ++ [V.ref p]) (upd H p (.tup rest)) Q E) := by
  refine Fun.star F scDo cxUp bind_do (fun cdv A outer s H vs Q E hr h => ?_)
  obtain ⟨N, st, dx, tp, rd, p, ws, ts, qs, rss, xs, us, rfl, sa, hp, hxs, lu, fit, N90, k1, k2⟩ := h
  have hr2 : Room 2 _ := hr.mono (by decide)
  have hr4 : Room 4 _ := hr.mono (by decide)
  have hu : (A.deeper (PyProof.Rows.envOfC "Store.do" (defScope sDo) s.heap.objs.size f cdv)).units + 1 < cLine := by
    have := hr.units
    omega
  refine ⟨_, pss_cons (ps_for PassesOwn.leaving rfl (pi_tup (pv 1)) (pg_name (i := 2) scDo.nd rfl (Or.inl rfl))
        (pss_one (ps_if (pt_not (pt_val (pe_meth (pv 0) S.cl S.mIC GC hr4 bC .nil pass0 (pa_cons (pv 2) pa_nil)))) (pss_one (ps_raise rfl (takes_of rfl rfl rfl rfl) (Vk.pmk_retX rfl (Vk.pe_xmk Vk.famV U.xc U.iC U.tI GI hr2 bI rfl U.g (pv 2))))) pss_nil)))
      (pss_cons (ps_set (i := 3) scDo.nd rfl (Or.inl rfl) (pe_lst pa_nil))
      (pss_cons (ps_for PassesOwn.leaving rfl (pi_tup (pv 1)) (pg_name (i := 2) scDo.nd rfl (Or.inl rfl))
        (pss_cons (ps_expr (pe_bm PySem.F.plainAttrs_list PySem.F.slot_list_append PySem.F.type_list_append mt_append (pv 3) (pa_cons (pe_meth (E := E) (pv 0) S.cl S.mIP GP hr bP .nil (passes_call (takes_of rfl rfl rfl rfl) (fun _ _ _ _ h => h)) (pa_cons (pv 2) pa_nil)) pa_nil)))
        (pss_one (ps_if (pt_val (pe_ix ix_list (pv 3) (pe_un un_neg pe_int) (fun _ _ => rfl)))
          (pss_one (ps_dput hu (pe_fld (pv 0) rfl) (pe_ix ix_tup (pv 2) pe_int (fun _ _ => rfl))
            (pe_call GA hr2 rfl cA.g cA.k bA .nil pass0 (pa_cons (pv 2) (pa_cons (pe_meth (E := E) (pv 0) S.cl S.mRO GR hr4 bR .nil (passes_call (takes_of rfl rfl rfl rfl) (fun _ _ _ _ h => h)) (pa_cons (pe_ix ix_tup (pv 2) pe_int (fun _ _ => rfl)) pa_nil)) pa_nil))) rfl)) pss_nil))))
      (pss_one (ps_ret (pe_callTy call_tupleF (by rfl) tuple (by decide +kernel) (pa_cons (pv 3) pa_nil)))))), ?_⟩
  have big : sizeLine > 1000 := by decide
  have lx : xs.length = us.length := hxs.length
  refine ⟨_, rfl, p, rfl, ⟨_, hp⟩, for_tup (K := K) (a := p) (xs := xs) (fun i σ H' => ∃ (v2 : Option V), σ = [some (.ref st), some (.ref p), v2, none] ∧ Same H H' ∧ ∀ j, j < i → ∀ tj, us[j]? = some tj → isChg ts tj = true) ⟨none, rfl, Same.refl H, fun j hj => absurd hj (Nat.not_lt_zero _)⟩
    (fun i σ H' _ ⟨_, _, s', _⟩ => sameT s' hp) ?_ ?_⟩
  · rintro i y σ H2 hi ⟨v2, rfl, s2, al⟩
    obtain ⟨t, et, ⟨n, bs, d⟩, tw⟩ := each_get hxs hi
    refine ⟨_, rfl, st, dx, _, rfl, s2 _ _ sa.hs, rfl, _, rfl, st, dx, tp, rd, ws, ts, qs, rss, y, t, n, bs, rfl, sa.same s2, d.keep (fun b _ o e => s2 b o e), tw, fun H3 s3 => ⟨_, rfl, ?_⟩⟩
    have s23 := s2.trans s3
    cases hc : isChg ts t with
    | true =>
      refine iteF ⟨_, rfl, s23, fun j hj tj ej => ?_⟩
      rcases Nat.lt_succ_iff_lt_or_eq.mp hj with lt | eq
      · exact al j lt tj ej
      · rw [eq, et] at ej
        cases ej
        exact hc
    | false =>
      refine iteT ⟨_, rfl, fun e dx2 H4 s4 ne nd xa => ?_⟩
      refine ⟨e, CIC, dx2, _, rfl, xa.2.1, xa.2.2, xa.1, fr0_none (s23.free ne), raises_own U.xc.exC U.xc.tyC, ?_⟩
      refine k2 i y t hi et hc al dx2 _ (fun b o q => ?_) (s23.free nd) upd_same
      have q2 := s23 b o q
      rw [upd_ne (ne_of_none q2 nd), delH_ne (ne_of_none q2 ne)]
      exact s4 b o q2
  rintro σ H1 ⟨v2, rfl, s1, al⟩
  rw [lx] at al
  have all : ∀ t ∈ us, isChg ts t = true := fun t m => by
    obtain ⟨j, lt, e⟩ := List.mem_iff_getElem.mp m
    exact al j lt t (by rw [List.getElem?_eq_getElem lt, e])
  refine ⟨by show 0 ≤ sizeLine; omega, fun L hL => ?_⟩
  have sL := s1.trans (same_upd (o := .lst []) hL)
  have hL0 : H L = none := s1.free hL
  have rL : L ≠ rd := fun e => by
    have q := s1 _ _ sa.hd
    rw [← e, hL] at q
    cases q
  refine ⟨_, rfl, p, rfl, ⟨_, sameT sL hp⟩, for_tup (K := K) (a := p) (xs := xs) (fun i σ H' => ∃ (v2 : Option V) (qs' : List Addr), σ = [some (.ref st), some (.ref p), v2, some (.ref L)] ∧ Du rd H H' ∧ H' L = some (.lst ((boolsT ts rss (us.take i)).map V.bl)) ∧
      StAt K H' C CT st dx tp rd ws ts qs' (stepsT ts rss (us.take i)) ∧ Fit (N + i) ts (stepsT ts rss (us.take i))) ⟨_, qs, rfl, Du.of_same sL, upd_same, sa.same sL, fit⟩ ?_ ?_ ?_⟩
  · rintro i σ H' _ ⟨_, _, _, du, _⟩
    have hp' := hp
    rcases hp' with (h | ⟨o, h⟩) | h
    · exact .inl (.inl (du _ _ (fun q => by rw [q, sa.hd] at h; cases h) h))
    · exact .inl (.inr ⟨o, du _ _ (fun q => by rw [q, sa.hd] at h; cases h) h⟩)
    · exact .inr h
  · rintro i y σ H2 hi ⟨v2, qs2, rfl, du, eL, sa2, fit2⟩
    obtain ⟨t, et, ⟨n, bs, d0⟩, tw⟩ := each_get hxs hi
    have hc := all t (List.mem_of_getElem? et)
    have d := d0.fz (du.fz sa.hd) (chg_pure hc)
    have li : i < us.length := (List.getElem?_eq_some_iff.mp et).1
    have tk : us.take (i + 1) = us.take i ++ [t] := by rw [List.take_add_one, et]; rfl
    generalize hr2 : stepsT ts rss (us.take i) = rs2 at sa2 fit2
    generalize hb2 : boolsT ts rss (us.take i) = bs2 at eL
    have st2 : stepsT ts rss (us.take (i + 1)) = stepT ts rs2 t := by rw [tk, steps_snoc, hr2]
    have bo2 : boolsT ts rss (us.take (i + 1)) = bs2 ++ [posT ts rs2 t] := by rw [tk, bools_snoc, hb2, hr2]
    have bl2 : bs2.length = i := by
      rw [← hb2, bools_len, List.length_take]
      omega
    have lrw : rs2.length = ts.length := by rw [← sa2.rw.length, sa2.lq]
    refine ⟨_, rfl, .inl ⟨rfl, _, SqL.of eL⟩, _, rfl, st, dx, _, rfl, sa2.hs, rfl, _, rfl, N + i, st, dx, tp, rd, ws, ts, qs2, rs2, y, t, n, bs, rfl, sa2, d, tw, fit2, by omega, fun _ H3 s3 => ?_, fun z => by rw [hc] at z; cases z⟩
    refine ⟨L, _, _, rfl, rfl, s3 _ _ eL, by rw [List.length_map]; omega, ?_⟩
    have du3 : Du rd H (upd H3 L (.lst (bs2.map V.bl ++ [V.bl (posT ts rs2 t)]))) := fun b o n e => by
      rw [upd_ne (ne_of_none e hL0)]
      exact s3 _ _ (du b o n e)
    have sa3 : StAt K (upd H3 L (.lst (bs2.map V.bl ++ [V.bl (posT ts rs2 t)]))) C CT st dx tp rd ws ts qs2 rs2 := sa2.nl fun b o n e => by
      have q : b ≠ L := fun z => by
        rw [z, eL] at e
        exact n _ (Option.some.inj e).symm
      rw [upd_ne q]
      exact s3 b o e
    have eL3 : upd H3 L (.lst (bs2.map V.bl ++ [V.bl (posT ts rs2 t)])) L = some (.lst ((boolsT ts rss (us.take (i + 1))).map V.bl)) := by
      rw [upd_same, bo2, List.map_append]
      rfl
    show tSeq _ _ _ _ (upd H3 L (.lst (bs2.map V.bl ++ [V.bl (posT ts rs2 t)])))
    generalize upd H3 L (.lst (bs2.map V.bl ++ [V.bl (posT ts rs2 t)])) = H4 at du3 sa3 eL3 ⊢
    have last : atI ((boolsT ts rss (us.take (i + 1))).map V.bl) (-1) = some (V.bl (posT ts rs2 t)) := by
      rw [bo2, List.map_append]
      exact atI_last _ _
    refine ⟨_, rfl, _, rfl, L, _, -1, _, rfl, rfl, SqL.of eL3, last, _, rfl, ?_⟩
    cases hp2 : posT ts rs2 t with
    | false =>
      refine iteF ⟨_, qs2, rfl, du3, eL3, ?_, ?_⟩
      · rw [st2, step_no hp2]
        exact sa3
      · rw [st2, step_no hp2]
        exact fit2.up (Nat.le_succ _)
    | true =>
      refine iteT ?_
      have d4 := d0.fz (du3.fz sa.hd) (chg_pure hc)
      obtain ⟨pc, kd, j, ti, vs, rows, rs, rfl, et', hpc, hvs, etj, erj, fi, o1, hl, l12, pe, m, cs, dn⟩ := chg_at fit2 lrw d4 hc
      obtain ⟨g, o2, few⟩ := fit2 j ti rs etj erj
      have lq : j < qs2.length := by
        rw [sa3.lq]
        exact (List.getElem?_eq_some_iff.mp etj).1
      have eqj := List.getElem?_eq_getElem lq
      obtain ⟨rs', er2, ob, ys, hq, hd, hys⟩ := each_get sa3.rw eqj
      rw [erj] at er2
      obtain rfl := Option.some.inj er2
      have dnk : ∀ {H'}, Same H4 H' → Dt K H' (V.str ti.nm) (.str ti.nm) m cs := fun s' => dn.keep fun b _ o e => s' b o e
      refine ⟨_, rfl, _, rfl, st, dx, _, rfl, sa3.hs, rfl, _, rfl, pc, _, ((1 : Nat) : Int), .str ti.nm, rfl, rfl, hpc, atI_nat rfl, st, dx, tp, rd, ws, ts, qs2, rs2, .str ti.nm, .str ti.nm, m, cs, rfl, sa3, dn, fun j3 q3 H5 fi3 eq3 s5 => ?_, fun fi3 => by rw [fi] at fi3; cases fi3⟩
      rw [fi] at fi3
      obtain rfl := Option.some.inj fi3
      rw [eqj] at eq3
      obtain rfl := Option.some.inj eq3
      refine ⟨pc, _, kd, .str ti.nm, vs, ys, rows, rs, ti, rfl, sameT s5 hpc, hvs.keep (.of_same s5), .inl (.inr ⟨ob, s5 _ _ hq⟩), hys.keep (.of_same s5), g, o1, o2, by omega, by omega, fun H6 q6 s6 n6 r6 => ?_⟩
      have s56 := s5.trans s6
      have sa6 := sa3.same s56
      refine ⟨_, rfl, st, C, dx, _, _, rfl, sa6.hs, S.cl, S.nR, rfl, _, rfl, pc, _, ((1 : Nat) : Int), .str ti.nm, rfl, rfl, sameT s56 hpc, atI_nat rfl, rd, _, rfl, DPut.k (k := (Sum.inr ti.nm : Key)) sa6.hd ?_, ?_⟩
      · have : (kvsOf ts qs2).length ≤ ts.length := by
          unfold kvsOf
          rw [List.length_zipWith]
          omega
        have := sa.few
        omega
      rw [kvs_put sa3.nd etj eqj]
      have stj : stepT ts rs2 t = rs2.set j (afterR kd rows rs) := step_is et' fi erj hp2
      have fz6 : Fz H6 (upd H6 rd (.dK (kvsOf ts (qs2.set j q6)))) := fun b o xs e => by
        rw [upd_ne fun z => by rw [z, sa6.hd] at e; cases e]
        exact e
      refine ⟨_, qs2.set j q6, rfl, fun b o n e => ?_, ?_, ?_, ?_⟩
      · rw [upd_ne n]
        exact s56 _ _ (du3 b o n e)
      · rw [upd_ne rL]
        exact s56 _ _ eL3
      · rw [st2, stj]
        have n1 : st ≠ rd := fun z => by
          have a1 := sa6.hs
          rw [z, sa6.hd] at a1
          cases a1
        refine ⟨?_, ?_, ?_, upd_same, ?_, ?_, sa3.nd, sa3.few⟩
        · rw [upd_ne n1]
          exact sa6.hs
        · have ht := sa6.ht
          rcases ht with (h | ⟨o, h⟩) | h
          · refine .inl (.inl ?_)
            rw [upd_ne fun z => by rw [z, sa6.hd] at h; cases h]
            exact h
          · refine .inl (.inr ⟨o, ?_⟩)
            rw [upd_ne fun z => by rw [z, sa6.hd] at h; cases h]
            exact h
          · exact .inr h
        · refine sa6.tb.mono fun v tt z => ?_
          obtain ⟨a, e, ⟨dx', a2, a3, a4, h1, h2, h3, h4⟩, l2, l3, l4⟩ := z
          have up : ∀ {b o}, H6 b = some o → (∀ kvs, o ≠ .dK kvs) → upd H6 rd (.dK (kvsOf ts (qs2.set j q6))) b = some o := fun {b o} e n => by
            rw [upd_ne fun z => by rw [z, sa6.hd] at e; exact n _ (Option.some.inj e).symm]
            exact e
          have upE : ∀ {b xs}, TupE K H6 b xs → TupE K (upd H6 rd (.dK (kvsOf ts (qs2.set j q6)))) b xs := fun {b xs} h => by
            rcases h with h | ⟨o, h, hd⟩
            · exact .inl h
            · exact .inr ⟨o, up h (fun _ z => nomatch z), hd⟩
          exact ⟨a, e, ⟨dx', a2, a3, a4, up h1 (fun _ z => nomatch z), upE h2, upE h3, upE h4⟩, l2, l3, l4⟩
        · refine each_set (sa6.rw.mono fun _ _ z => z.keep fz6) j ?_
          exact r6.keep fz6
        · rw [List.length_set]
          exact sa3.lq
      · rw [st2, stj]
        have al := after_len (kd := kd) (us := rows) (rs := rs) hl
        exact Fit.set fit2 etj (after_ok o1 o2) (Nat.le_trans al (Nat.succ_le_succ few))
  · rintro σ H2 ⟨v2, qs2, rfl, du, eL, sa2, fit2⟩
    rw [lx, List.take_length] at eL sa2 fit2
    refine ⟨_, rfl, L, _, rfl, SqL.of eL, fun q o hq hod => ?_⟩
    have q0 : H q = none := by
      cases e : H q with
      | none => rfl
      | some u =>
        by_cases n : q = rd
        · have := sa2.hd
          rw [← n, hq] at this
          cases this
        · have := du q u n e
          rw [hq] at this
          cases this
    refine k1 all _ q qs2 ?_ q0 ⟨o, upd_same, hod⟩ (sa2.same (same_upd hq)) fit2
    intro b u n e
    rw [upd_ne fun z => by rw [z, q0] at e; cases e]
    exact du b u n e
end
end Vm
/-! {text for x in t}: a set of texts; len of it -/
namespace Vm
open PySem PySem.Spec PyProof.Rows L2 PpSet
section
variable {X : Cx}
theorem kset_new (P : Program) (w : World) (h : Heap) : (h.push { cls := .type "set", dict := none, data := .set #[] 0 (.fresh 0 0 (!w.params.followText "set-order")) }).SetOf (mixKind P w) h.objs.size (fun _ => false) 0 :=
  ⟨_, #[], 0, _, Heap.get?_push_size _ rfl, ⟨rfl, rfl, rfl⟩, rfl, (fun e he => by simp at he), (fun k => by simp), (by decide), (by rfl), rfl⟩
theorem kset_add {pins : List (Addr × Obj)} {σ : L2.St} {H : Hp} {s : Shared} {Er : Value → Shared → Prop} {B : Addr} {S : Key → Bool} {n : Nat} {k : Key} {u : Value} {Q : Value → Shared → Prop} (I : Inv X pins σ H s) (hB : H B = some (SetK X.prog X.w B S n)) (room : n + 1 < scanBound) (ru : RelV (kV k) u)
    (go : ∀ s', Inv X pins σ (upd H B (SetK X.prog X.w B (fun j => S j || decide (j = k)) (if S k = true then n else n + 1))) s' → Q .none s') : wpAny (model X.prog X.w) X.A (call (.builtin "set.add") [.ref B, u]) Q Er s := by
  refine call_set_add (kV_is ru) (key_scan ru) (setK_get I hB) room fun heap' same fresh => ?_
  have there : ∃ o, heap'.get? B = some o := by
    obtain ⟨o, _, _, _, ho, _⟩ := fresh
    exact ⟨o, ho⟩
  exact go _ (I.write (e := B) (t' := s.toks + 1) (by rw [hB]; trivial) (.inl rfl) (fun c o ne old => (same.2 c ne).trans old) there (setK_new fresh))
/-- the reading of {elt for target in iter if ..}, elt a text -/
def tScK (P : Program) (w : World) (wi : TI) (g : TG) (tt : TT) (te : TE) (slots : List Nat) : TE := fun σ H Q => wi σ H fun J H1 => ∀ B, H1 B = none → ∃ W : Nat → Nat → Hp → Prop, (∃ m, W 0 m (upd H1 B (SetK P w B (fun _ => false) 0))) ∧ ∀ i m G, W i m G →
  (J.stop i G ∧ Q (.ref B) G) ∨ (J.go i G ∧ ∃ Y : Hp → Prop, (∀ G', Y G' → ∃ m', m' < m ∧ W (i + 1) m' G') ∧ ∀ x G', J.yld i G x G' → g x (wipe σ slots) G' fun τ G2 => wipe τ slots = wipe σ slots ∧ tt τ G2 fun yes G3 =>
    if yes = true then te τ G3 fun y G4 => ∃ (k : Key) (S : Key → Bool) (n : Nat), y = kV k ∧ G4 B = some (SetK P w B S n) ∧ n + 1 < scanBound ∧ Y (upd G4 B (SetK P w B (fun j => S j || decide (j = k)) (if S k = true then n else n + 1))) else Y G3)
theorem sck_core {pins : List (Addr × Obj)} {s : Shared} {σ : L2.St} {H : Hp} {Q : VK} {elt target it0 : Expr} {conds : List Expr} {sco : Scope} {own : List (PySem.Str × Nat)} {p0 p1 : Pos} {wi : TI} {g : TG} {tt : TT} {te : TE} {us : Option (Value → Sem Unit)} {Qf : Value → Shared → Prop}
    (calm : X.calm = true) (nodup : X.N.Nodup) (I : Inv X pins σ H s) (hi : PI X target it0 wi) (blk : BlkOk X.N X.env.scope sco own)
    (hg : ∀ (z : Shared) (G : Hp) (C : Addr) (cl : List (PySem.Str × Addr)) (fp : List Addr), PG (X.blk z G sco (compEnvC sco cl C X.env) fp) target g)
    (ht : ∀ (z : Shared) (G : Hp) (C : Addr) (cl : List (PySem.Str × Addr)) (fp : List Addr), PTs (X.blk z G sco (compEnvC sco cl C X.env) fp) conds tt)
    (he : ∀ (z : Shared) (G : Hp) (C : Addr) (cl : List (PySem.Str × Addr)) (fp : List Addr), PE (X.blk z G sco (compEnvC sco cl C X.env) fp) elt te) (fold : ∀ x, foldedSetIterable it0 X.env x = pure x)
    (want : tScK X.prog X.w wi g tt te (own.map (·.2)) σ H Q)
    (fin : ∀ B C z m G, Inv X pins σ G z → Q (.ref B) G → z.heap.Ns C m → FpOk X pins G C → compPost (model X.prog X.w) X.A X.xe us Qf (.ref B) C (.ok .next) z) :
    wpAny (model X.prog X.w) X.A (comprehension (.SetComp elt [⟨target, it0, conds, 0⟩] sco p0) sco X.env p1 (PySem.newSet (.type "set")) false (eval it0 X.env) us) Qf X.xe s := by
  have frees : ∀ y ∈ sco.names, y.2 = .free → ∃ c, X.env.cells.lookup y.1 = some c := fun y hy q => (blk.free y hy q).elim (fun a => I.ok.has _ (.inl a)) fun a => I.ok.has _ (.inr a)
  refine wpAny_comprehension_free (use := us) rfl fold (closure_ok frees) blk.kind (fun y hy q => by rw [blk.uniq y hy, q]) (thn (hi.run pins s σ H _ I want) fun _ z1 h1 => thn h1 fun _ z2 h2 => ?_)
  obtain ⟨it, fp, tn, J, G2, rfl, I2, T, at2, ok2, body⟩ := h2
  refine newSet_ok (newEnv_comp ?_)
  generalize eB : z2.heap.objs.size = B
  have noneB : G2 B = none := I2.hok.fresh (Nat.le_of_eq eB)
  obtain ⟨W, ⟨m0, w0⟩, turn⟩ := body B noneB
  generalize e3 : ({ z2 with heap := z2.heap.push { cls := .type "set", dict := none, data := .set #[] 0 (.fresh 0 0 (!X.w.params.followText "set-order")) } } : Shared) = z3
  have I3 : Inv X pins σ (upd G2 B (SetK X.prog X.w B (fun _ => false) 0)) z3 := by
    subst e3
    subst eB
    exact I2.laid (t' := z2.toks) (fun b o old => Heap.get?_push_of_some _ old) (Nat.le_refl _) (setK_new (kset_new X.prog X.w z2.heap))
  have heap3 : z3.heap = z2.heap.push { cls := .type "set", dict := none, data := .set #[] 0 (.fresh 0 0 (!X.w.params.followText "set-order")) } := by subst e3; rfl
  have small : ∀ b ∈ fp, b < z2.heap.objs.size := fun b hb => let ⟨_, q, _⟩ := T.obj _ _ at2 b hb; Heap.lt_size q
  have ok3 : ∀ b ∈ fp, FpOk X pins (upd G2 B (SetK X.prog X.w B (fun _ => false) 0)) b ∧ b < z3.heap.objs.size := fun b hb => by
    have lt := small b hb
    refine ⟨⟨?_, (ok2 b hb).2⟩, ?_⟩
    · rw [upd_ne (eB ▸ Nat.ne_of_lt lt)]
      exact (ok2 b hb).1
    · rw [heap3, Heap.size_push]
      exact Nat.lt_succ_of_lt lt
  have at3 : tn 0 z3.heap := T.keep _ _ _ at2 fun b _ o old => heap3 ▸ Heap.get?_push_of_some _ old
  have I4 := block_start I3 blk nodup ok3
  have kg := hg z3 (upd G2 B (SetK X.prog X.w B (fun _ => false) 0)) z3.heap.objs.size (cellsFrom (z3.heap.objs.size + 1) sco.names (cloFrom X.env.cells sco.names [])) fp
  have kt := ht z3 (upd G2 B (SetK X.prog X.w B (fun _ => false) 0)) z3.heap.objs.size (cellsFrom (z3.heap.objs.size + 1) sco.names (cloFrom X.env.cells sco.names [])) fp
  have ke := he z3 (upd G2 B (SetK X.prog X.w B (fun _ => false) 0)) z3.heap.objs.size (cellsFrom (z3.heap.objs.size + 1) sco.names (cloFrom X.env.cells sco.names [])) fp
  show codeAny _ _ (.compStart (.SetComp elt [⟨target, it0, conds, 0⟩] sco p0) 0 (.ref it) (.ref B) (compEnvC sco (cellsFrom (z3.heap.objs.size + 1) sco.names (cloFrom X.env.cells sco.names [])) z3.heap.objs.size X.env)) (compPost (model X.prog X.w) X.A X.xe us Qf (.ref B) z3.heap.objs.size) { z3 with heap := pushCells (z3.heap.push { cls := .type "dict", data := .dict #[] }) sco.names }
  have nofp : ∀ b ∈ fp, (upd G2 B (SetK X.prog X.w B (fun _ => false) 0)) b = none := fun b hb => (ok3 b hb).1.1
  generalize eE : compEnvC sco (cellsFrom (z3.heap.objs.size + 1) sco.names (cloFrom X.env.cells sco.names [])) z3.heap.objs.size X.env = en at I4 kg kt ke ⊢
  have enL : en.locals = z3.heap.objs.size := by
    rw [← eE]
    rfl
  generalize eG3 : upd G2 B (SetK X.prog X.w B (fun _ => false) 0) = G3 at I3 I4 kg kt ke w0 nofp ok3
  generalize e4 : ({ z3 with heap := pushCells (z3.heap.push { cls := .type "dict", data := .dict #[] }) sco.names } : Shared) = z4 at I4 ⊢
  have at4 : tn 0 z4.heap := T.keep _ _ _ at3 fun b _ o old => e4 ▸ pushCells_keeps _ _ _ _ (Heap.get?_push_of_some _ old)
  have still : ∀ {τ : L2.St} {G' : Hp} {z : Shared}, Inv (X.blk z3 G3 sco en fp) [] τ G' z → (∀ b ∈ fp, G' b = none) → ∀ b ∈ fp, FpOk (X.blk z3 G3 sco en fp) [] G' b := fun {τ G' z} J' off b hb =>
    ⟨off b hb, (J'.ok.exf b hb).1, J'.ok.exfs b hb, .inl hb, fun x c q => (J'.ok.exf b hb).2 x c q, fun r hr => absurd (show r ∈ ([] : List (Addr × Obj)) ++ [] from hr) (by simp)⟩
  have run : codeAny (model X.prog X.w) X.A (.compLoop (.SetComp elt [⟨target, it0, conds, 0⟩] sco p0) 0 (.ref it) (.ref B) en) (compPost (model X.prog X.w) X.A X.xe us Qf (.ref B) z3.heap.objs.size) z4 := by
    refine compLoopS_any (fun n z => ∃ i G', Inv (X.blk z3 G3 sco en fp) [] (wipe σ (own.map (·.2))) G' z ∧ tn i z.heap ∧ (∀ b ∈ fp, G' b = none) ∧ W i n G') ?_ m0 ⟨0, G3, I4, at4, nofp, w0⟩
    rintro n z5 ⟨i, G5, I5, at5, off5, w5⟩
    rcases turn i n G5 w5 with ⟨stop, last⟩ | ⟨more, Y, less, step⟩
    · refine thnF (T.done (X.blk z3 G3 sco en fp) rfl rfl rfl calm i [] z5 _ G5 (fun _ _ => False) I5 (still I5 off5) at5 stop) fun _ z6 ⟨e6, I6⟩ => ?_
      subst e6
      have I7 : Inv X pins σ G5 z6 := I3.call' (ch := fp) I6.os I6.base I6.hok I6.bare fun b hb => let q := (ok3 b hb).1.2; ⟨q.2.2.1, q.1, q.2.2.2.1, q.2.2.2.2⟩
      have offC : G5 z3.heap.objs.size = none := by
        have q : G5 en.locals = none := I6.free
        exact enL ▸ q
      obtain ⟨m, space, _⟩ := I6.loc
      have space : z6.heap.Ns en.locals m := space
      rw [enL] at space
      exact fin B z3.heap.objs.size z6 m G5 I7 last space (I3.fpOk (Nat.le_refl _) offC)
    · refine thnF (T.item (X.blk z3 G3 sco en fp) rfl rfl rfl calm i [] z5 _ G5 (fun _ _ => False) I5 (still I5 off5) at5 more) fun _ z6 ⟨u, e6, h6⟩ => ?_
      subst e6
      refine thnF h6 fun _ z7 ⟨x, G7, I7, r7, y7, at7, off7⟩ => ?_
      have J7 := I7.pinned (still I7 off7) (T.obj _ _ at7)
      refine thnF (kg.run _ z7 _ G7 x u _ J7 r7 (step x G7 y7)) fun _ z8 ⟨τ, G8, I8, w8, q8⟩ => ?_
      refine thnF (kt.run _ z8 τ G8 _ I8 q8) fun yes z9 ⟨G9, I9, q9⟩ => ?_
      have turned : ∀ {z : Shared} {G' : Hp}, Inv (X.blk z3 G3 sco en fp) ([] ++ pinsAt fp z7.heap) τ G' z → Y G' → ∃ m, m < n ∧ ∃ i G', Inv (X.blk z3 G3 sco en fp) [] (wipe σ (own.map (·.2))) G' z ∧ tn i z.heap ∧ (∀ b ∈ fp, G' b = none) ∧ W i m G' := fun {z G'} J' yy => by
        obtain ⟨m', lt, w'⟩ := less G' yy
        have pinned : ∀ b ∈ fp, ∀ o, z7.heap.get? b = some o → z.heap.get? b = some o ∧ G' b = none := fun b hb o old =>
          let q := J'.pin (b, o) (List.mem_append_right _ (List.mem_append_right _ (mem_pinsAt hb old)))
          ⟨q.1, q.2.1⟩
        have len8 : (wipe σ (own.map (·.2))).length = τ.length := by
          rw [← w8, wipe_length]
        refine ⟨m', lt, i + 1, G', (J'.unpinned (pins := [])).weak len8 (fun j v q => (wipe_some (w8 ▸ q)).1), T.keep _ _ _ at7 fun b hb o old => (pinned b hb o old).1, fun b hb => ?_, w'⟩
        obtain ⟨o, old, _⟩ := T.obj _ _ at7 b hb
        exact (pinned b hb o old).2
      cases yes with
      | false =>
        rw [if_neg Bool.false_ne_true] at q9
        rw [if_neg Bool.false_ne_true]
        exact turned I9 q9
      | true =>
        rw [if_pos rfl] at q9
        rw [if_pos rfl]
        refine thnF (ke.run _ z9 τ G9 _ I9 q9) fun _ z10 ⟨yv, G10, I10, r10, k, S0, n0, ey, eB10, room, nx⟩ => ?_
        subst ey
        exact kset_add (X := X.blk z3 G3 sco en fp) I10 eB10 room r10 fun z11 I11 => turned I11 nx
  exact codeAny_compStart_set run (T.self X.A 0 _ _ _ at4 run)
theorem pe_sck {elt target it0 : Expr} {conds : List Expr} {sco : Scope} {own : List (PySem.Str × Nat)} {pos : Pos} {wi : TI} {g : TG} {tt : TT} {te : TE} (calm : X.calm = true) (nodup : X.N.Nodup) (hi : PI X target it0 wi) (blk : BlkOk X.N X.env.scope sco own)
    (hg : ∀ (z : Shared) (G : Hp) (C : Addr) (cl : List (PySem.Str × Addr)) (fp : List Addr), PG (X.blk z G sco (compEnvC sco cl C X.env) fp) target g)
    (ht : ∀ (z : Shared) (G : Hp) (C : Addr) (cl : List (PySem.Str × Addr)) (fp : List Addr), PTs (X.blk z G sco (compEnvC sco cl C X.env) fp) conds tt)
    (he : ∀ (z : Shared) (G : Hp) (C : Addr) (cl : List (PySem.Str × Addr)) (fp : List Addr), PE (X.blk z G sco (compEnvC sco cl C X.env) fp) elt te) (fold : ∀ x, foldedSetIterable it0 X.env x = pure x := by intro _; rfl) :
    PE X (.SetComp elt [⟨target, it0, conds, 0⟩] sco pos) (tScK X.prog X.w wi g tt te (own.map (·.2))) := by
  constructor
  intro pins s σ H Q I want
  rw [eval_SetComp]
  refine sck_core calm nodup I hi blk hg ht he fold want fun B C z m G J q space off => ⟨m, space, fun h2 same => ?_⟩
  obtain ⟨a0, a1, a2, a3, a4, a5⟩ := off
  exact ⟨.ref B, G, J.turned (t' := z.toks) (fun b o ne old => (same.2 b ne).trans old) a0 a1 a3 a4 a5, rfl, q⟩
/-- over a tuple that stands still, without an if -/
theorem sck_tup {P : Program} {w : World} {K : PySem.W.Frag} {a : Addr} {xs : List V} {g : TG} {te : TE} {slots : List Nat} {σ : L2.St} {H1 : Hp} {B : Addr} {Qd : Hp → Prop} (Pv : Nat → Hp → Prop) (start : Pv 0 (upd H1 B (SetK P w B (fun _ => false) 0))) (stays : ∀ i G, i ≤ xs.length → Pv i G → SqT K G a xs)
    (turn : ∀ i x G, xs[i]? = some x → Pv i G → g x (wipe σ slots) G fun τ G2 => wipe τ slots = wipe σ slots ∧ te τ G2 fun y G4 => ∃ (k : Key) (S : Key → Bool) (n : Nat), y = kV k ∧ G4 B = some (SetK P w B S n) ∧ n + 1 < scanBound ∧
      Pv (i + 1) (upd G4 B (SetK P w B (fun j => S j || decide (j = k)) (if S k = true then n else n + 1)))) (done : ∀ G, Pv xs.length G → Qd G) :
    ∃ W : Nat → Nat → Hp → Prop, (∃ m, W 0 m (upd H1 B (SetK P w B (fun _ => false) 0))) ∧ ∀ i m G, W i m G →
      ((Itt K a).stop i G ∧ Qd G) ∨ ((Itt K a).go i G ∧ ∃ Y : Hp → Prop, (∀ G', Y G' → ∃ m', m' < m ∧ W (i + 1) m' G') ∧ ∀ x G', (Itt K a).yld i G x G' → g x (wipe σ slots) G' fun τ G2 => wipe τ slots = wipe σ slots ∧ tYes τ G2 fun yes G3 =>
        if yes = true then te τ G3 fun y G4 => ∃ (k : Key) (S : Key → Bool) (n : Nat), y = kV k ∧ G4 B = some (SetK P w B S n) ∧ n + 1 < scanBound ∧ Y (upd G4 B (SetK P w B (fun j => S j || decide (j = k)) (if S k = true then n else n + 1))) else Y G3) := by
  refine ⟨fun i m G => m = xs.length - i ∧ i ≤ xs.length ∧ Pv i G, ⟨xs.length, Nat.sub_zero _ |>.symm, Nat.zero_le _, start⟩, ?_⟩
  rintro i m G ⟨rfl, le, pv⟩
  have sq := stays i G le pv
  rcases Nat.lt_or_ge i xs.length with lt | ge
  · refine .inr ⟨⟨xs, xs[i], sq, List.getElem?_eq_getElem lt⟩, Pv (i + 1), fun G' pv' => ⟨xs.length - (i + 1), by omega, rfl, lt, pv'⟩, fun x G' y => ?_⟩
    obtain ⟨same, at_⟩ := y
    subst same
    have t := turn i x _ (at_ xs sq) pv
    exact t
  · obtain rfl : i = xs.length := Nat.le_antisymm le ge
    exact .inl ⟨⟨xs, sq, Nat.le_refl _⟩, done G pv⟩
end
end Vm
/-! Store.__init__, of tables with different names -/
namespace Vm
open PySem PySem.Spec PyProof.Rows L2 StX ClX PpSet
section
variable {X : Cx}
/-- len of a set of keys -/
theorem call_lenK : CallR X (.builtin "len") (fun xs H Q => ∃ (a : Addr) (S : Key → Bool) (n : Nat), xs = [.ref a] ∧ H a = some (SetK X.prog X.w a S n) ∧ n < 1000 ∧ Q (.int n) H) := by
  intro pins s σ H xs us Q I r h
  obtain ⟨a, S, n, rfl, ha, few, q⟩ := h
  rw [Vals.ref1 r]
  obtain ⟨o, es, ep, t, ho, hex, hd, _, _, _, hf, hn⟩ := setK_get I ha
  exact call_len_set ho hex hd hf (by rw [hn]; omega) ⟨.int n, H, I.tok _, ⟨_, by rw [hn]⟩, q⟩
end
/-- what isinstance asks of a class -/
structure IsO (K : PySem.W.Frag) (C : Addr) : Prop where
  ca : PySem.W.findIn K (.ref C) "__class__" = some (some (.builtin "object.__class__"))
  cn : PySem.W.specialIn K (.builtin "object.__class__") "__get__" = some (some (.builtin "getset_descriptor.__get__"))
  ct : PySem.W.takesIn K (.builtin "object.__class__") = some true
  mo : PySem.W.mroIn K C (.type "object") = some true
  kC : PySem.W.kitOne K (.ref C) (.ref C) = some true
/-- the names of the first i tables -/
def namesB (ts : List Ti) (i : Nat) : Key → Bool
  | .inl _ => false
  | .inr x => (ts.take i).any fun t => t.nm == x
theorem names_new {ts : List Ti} {i : Nat} {ti : Ti} (nd : (ts.map Ti.nm).Nodup) (e : ts[i]? = some ti) : namesB ts i (Sum.inr ti.nm) = false := by
  show ((ts.take i).any fun t => t.nm == ti.nm) = false
  rw [List.any_eq_false]
  intro t m h
  have h2 := beq_iff_eq.mp h
  obtain ⟨j, e3⟩ := List.mem_iff_getElem?.mp m
  have lt : j < i := by
    have := (List.getElem?_eq_some_iff.mp e3).1
    rw [List.length_take] at this
    omega
  rw [List.getElem?_take_of_lt lt] at e3
  have f1 := first_nm nd e
  have f2 := first_nm nd e3
  rw [h2, f1] at f2
  have := Option.some.inj f2
  omega
theorem names_succ {ts : List Ti} {i : Nat} {ti : Ti} (e : ts[i]? = some ti) : (fun j : Key => namesB ts i j || decide (j = Sum.inr ti.nm)) = namesB ts (i + 1) := by
  funext j
  cases j with
  | inl n => rfl
  | inr x =>
    show (((ts.take i).any fun t => t.nm == x) || decide ((Sum.inr x : Key) = Sum.inr ti.nm)) = (ts.take (i + 1)).any fun t => t.nm == x
    rw [List.take_add_one, e, List.any_append]
    congr 1
    show decide ((Sum.inr x : Key) = Sum.inr ti.nm) = ((ti.nm == x) || false)
    rw [Bool.or_false]
    by_cases q : ti.nm = x
    · rw [q, decide_eq_true rfl, beq_self_eq_true]
    · rw [decide_eq_false fun z => q (Sum.inr.inj z).symm, beq_eq_false_iff_ne.mpr q]
theorem kvs_next {ts : List Ti} {qs : List Addr} {i : Nat} {ti : Ti} {q : Addr} (nd : (ts.map Ti.nm).Nodup) (e : ts[i]? = some ti) (l : qs.length = i) : putK (kvsOf (ts.take i) qs) (Sum.inr ti.nm) (V.ref q) = kvsOf (ts.take (i + 1)) (qs ++ [q]) := by
  have lt := (List.getElem?_eq_some_iff.mp e).1
  have no : ((kvsOf (ts.take i) qs).any fun kv => decide (kv.1 = (Sum.inr ti.nm : Key))) = false := by
    rw [List.any_eq_false]
    intro kv m h
    have h2 := of_decide_eq_true h
    obtain ⟨j, e3⟩ := List.mem_iff_getElem?.mp m
    unfold kvsOf at e3
    rw [List.getElem?_zipWith] at e3
    cases a : (ts.take i)[j]? with
    | none => rw [a] at e3; cases e3
    | some tj =>
      cases b : qs[j]? with
      | none => rw [a, b] at e3; cases e3
      | some qj =>
        rw [a, b] at e3
        obtain rfl := Option.some.inj e3
        have nn := names_new nd e
        have : ((ts.take i).any fun t => t.nm == ti.nm) = true := List.any_eq_true.mpr ⟨tj, List.mem_of_getElem? a, beq_iff_eq.mpr (Sum.inr.inj h2)⟩
        have nn' : ((ts.take i).any fun t => t.nm == ti.nm) = false := nn
        rw [nn'] at this
        cases this
  unfold putK
  rw [no, if_neg (by decide)]
  unfold kvsOf
  rw [List.take_add_one, e]
  show _ = List.zipWith _ (ts.take i ++ [ti]) (qs ++ [q])
  rw [List.zipWith_append (by rw [List.length_take]; omega)]
  rfl
def spSInit (K : PySem.W.Frag) (C CT : Addr) : Sp := fun vs H Q _ => ∃ (e dx p : Addr) (ws : List V) (ts : List Ti), vs = [.ref e, .ref p] ∧ H e = some (.ins C dx []) ∧ SqT K H p ws ∧ TbsAt K H CT ws ts ∧ 1 ≤ ts.length ∧ ts.length ≤ 3 ∧ (ts.map Ti.nm).Nodup ∧
  ∀ H' rd qs, (∀ b o, b ≠ e → H b = some o → H' b = some o) → H rd = none → StAt K H' C CT e dx p rd ws ts qs (ts.map fun _ => []) → Q .non H'
section
variable {P : Program} {w : World} {K : PySem.W.Frag} {mg : Str → Option Value} {base : Heap} {fNm fNms fCols fKey C CT CI fTO fRO fIC fIP : Addr} {mc uM : Value}
theorem ok_sinit {f : Addr} {fd : FuncData} (F : Fun K "__init__" "Store.__init__" sSInit f fd) (T : TxtP K mg fNm fNms) (U : TxtT K mg CT CI fCols fKey) (O : IsO K CT) (S : TxtS K mg C fTO fRO fIC fIP) (cr : CRead K C mc) (cv : CVal K C mc "MOST" (.int 3) uM) :
    FnR P w K mg base (L2.CX P w) 2 f (fun vs H Q E => ∃ ws rest, vs = ws ++ rest ∧ ws.length = (["self"] : List Str).length ∧ rest.length ≤ sizeLine ∧ ∀ p, H p = Option.none → spSInit K C CT (ws ++ [V.ref p]) (upd H p (.tup rest)) Q E) := by
  refine Fun.star (k := 1) F scSInit cxUp bind_sinit (fun cdv A outer s H vs Q E hr h => ?_)
  obtain ⟨e, dx, p, ws, ts, rfl, he, hp, hts, l1, l3, nd, k⟩ := h
  refine ⟨_, pss_cons (ps_if (PW.pt (pw_or (pt_not (pt_chain op_le op_le pe_int (pe_callB call_len_seq (by rfl) T.len (by decide +kernel) (pa_cons (pv 1) pa_nil)) (pe_cval (pe_glob (v := .ref C) (by rfl) S.gC rfl))))
        (pw_or1 (pt_not (pt_val (pe_callB (cr_all rfl) (by rfl) T.all (by decide +kernel) (pa_cons (pe_lc (own := [("table", 2)]) (g := gName 2) (tt := tYes) (te := tCB (rIsi K) (tCons (tVar 2) (tCons (tC (.ref CT)) tNil))) rfl scSInit.nd (pi_tup (pv 1))
          (blkOk_by (N := ["self", "tables", "table"]) (sc := defScope sSInit) (by decide +kernel)) (fun _ _ _ _ _ => pg_name (i := 2) scSInit.nd rfl (Or.inl rfl)) (fun _ _ _ _ _ => pts_nil)
          (fun _ _ _ _ _ => by exact (pe_callB call_isi (by rfl) T.isi (by decide +kernel) (pa_cons (pv 2) (pa_cons (pe_glob (v := .ref CT) (by rfl) U.gC rfl) pa_nil))))) pa_nil))))))) (pss_one ps_never) pss_nil)
    (pss_cons (ps_if (pt_cmpR op_ne (pe_callB call_lenK (by rfl) T.len (by decide +kernel) (pa_cons (pe_sck (own := [("table", 2)]) (g := gName 2) (tt := tYes) (te := tFld K (tVar 2) "name") rfl scSInit.nd (pi_tup (pv 1))
          (blkOk_by (N := ["self", "tables", "table"]) (sc := defScope sSInit) (by decide +kernel)) (fun _ _ _ _ _ => pg_name (i := 2) scSInit.nd rfl (Or.inl rfl)) (fun _ _ _ _ _ => pts_nil)
          (fun _ _ _ _ _ => by exact (pe_fld (pv 2) rfl))) pa_nil)) (pe_callB call_len_seq (by rfl) T.len (by decide +kernel) (pa_cons (pv 1) pa_nil)) (nomark _)) (pss_one ps_never) pss_nil)
    (pss_cons (ps_fld (pv 0) (pv 1) rfl)
    (pss_one (ps_fld (pv 0) (pe_dc (own := [("table", 2)]) (g := gName 2) (tt := tYes) (tk := tFld K (tVar 2) "name") (tv := tTupF tNil) rfl scSInit.nd (pi_tup (pv 1))
          (blkOk_by (N := ["self", "tables", "table"]) (sc := defScope sSInit) (by decide +kernel)) (fun _ _ _ _ _ => pg_name (i := 2) scSInit.nd rfl (Or.inl rfl)) (fun _ _ _ _ _ => pts_nil)
          (fun _ _ _ _ _ => by exact (pe_fld (pv 2) rfl)) (fun _ _ _ _ _ => by exact (pe_tupF pa_nil))) rfl)))), ?_⟩
  have big : sizeLine > 1000 := by decide
  have sb : scanBound > 100 := by decide
  have lw : ws.length = ts.length := hts.length
  have field : ∀ {H2 : Hp} {i : Nat} {y : V}, Same H H2 → ws[i]? = some y → ∃ ti a dx2 fs, ts[i]? = some ti ∧ y = V.ref a ∧ H2 a = some (.ins CT dx2 fs) ∧ fs.lookup ("name" : Str) = some (V.str ti.nm) := fun {H2 i y} s2 hi => by
    obtain ⟨ti, et, a, rfl, tb⟩ := each_get hts hi
    obtain ⟨dx2, a2, a3, a4, ha, _⟩ := (tb.same s2).ex
    exact ⟨ti, a, dx2, _, et, rfl, ha, rfl⟩
  refine ⟨_, rfl, p, _, rfl, .inr hp, _, _, rfl, rfl, _, rfl, ?_⟩
  have c1 : (1 : Int) ≤ ((ws.length : Nat) : Int) := by omega
  rw [decide_eq_true c1]
  refine iteT ⟨C, mc, .int 3, uM, rfl, cr, cv, _, _, rfl, rfl, _, rfl, ?_⟩
  have c2 : ((ws.length : Nat) : Int) ≤ 3 := by omega
  rw [decide_eq_true c2]
  refine iteF ?_
  -- all tables
  refine ⟨_, rfl, p, rfl, ⟨_, hp⟩, fun D hD => ?_⟩
  refine lc_tup (K := K) (a := p) (xs := ws) (fun i H' => Same H H' ∧ H' D = some (.lst ((List.replicate i true).map V.bl))) ⟨same_upd hD, upd_same⟩ (fun i H' _ z => sameT z.1 hp) ?_ ?_
  · rintro i y H2 hi ⟨s2, e2⟩
    refine ⟨rfl, ?_⟩
    dsimp only [tYes]
    rw [if_pos rfl]
    obtain ⟨ti, a, dx2, fs, et, rfl, ha, _⟩ := field s2 hi
    have li := (List.getElem?_eq_some_iff.mp hi).1
    refine ⟨_, rfl, .ref a, _, _, _, true, rfl, .own _, .base (.ins ha U.cl O.ca O.cn O.ct O.mo), O.kC, _, e2, ?_, fun b u eu => ?_, ?_⟩
    · rw [List.length_map, List.length_replicate]
      omega
    · rw [upd_ne (ne_of_none eu hD)]
      exact s2 b u eu
    · rw [upd_same, List.replicate_succ', List.map_append]
      rfl
  rintro H1 ⟨s1, e1⟩
  refine ⟨D, _, rfl, SqL.of e1, _, rfl, ?_⟩
  have al : ((List.replicate ws.length true).all id) = true := by
    rw [List.all_eq_true]
    intro b m
    exact (List.mem_replicate.mp m).2
  rw [al]
  refine iteF ?_
  -- different names
  refine ⟨_, rfl, p, rfl, ⟨_, sameT s1 hp⟩, fun B hB => ?_⟩
  refine sck_tup (K := K) (a := p) (xs := ws) (fun i H' => Same H1 H' ∧ H' B = some (SetK P w B (namesB ts i) i)) ⟨same_upd hB, ?_⟩ (fun i H' _ z => sameT (s1.trans z.1) hp) ?_ ?_
  · rw [upd_same]
    congr 2
    funext j
    cases j <;> rfl
  · rintro i y H2 hi ⟨s2, e2⟩
    refine ⟨rfl, ?_⟩
    obtain ⟨ti, a, dx2, fs, et, rfl, ha, hf⟩ := field (s1.trans s2) hi
    have li := (List.getElem?_eq_some_iff.mp hi).1
    refine ⟨_, rfl, a, CT, dx2, fs, _, rfl, ha, U.cl, U.n1, hf, Sum.inr ti.nm, namesB ts i, i, rfl, e2, by omega, fun b u eu => ?_, ?_⟩
    · rw [upd_ne (ne_of_none eu hB)]
      exact s2 b u eu
    · rw [upd_same, names_succ et, names_new nd et]
      rfl
  rintro H2 ⟨s2, e2⟩
  have s12 := s1.trans s2
  refine ⟨B, _, _, rfl, e2, by omega, ?_⟩
  refine ⟨_, rfl, p, _, rfl, .inr (sameT s12 hp), rfl, _, rfl, ?_⟩
  rw [decide_eq_true rfl]
  refine iteF ?_
  -- the fields
  refine ⟨_, rfl, _, rfl, e, C, dx, _, rfl, s12 _ _ he, S.cl, S.nT, by decide, ?_⟩
  have keepT : ∀ {G : Hp} {fs : List (Str × V)} {o : HO} {q : Addr} {xs : List V}, G e = some (.ins C dx fs) → SqT K G q xs → SqT K (upd G e o) q xs := fun {G fs o q xs} ge h => by
    rcases h with (h | ⟨ob, h⟩) | h
    · refine .inl (.inl ?_)
      rw [upd_ne fun z => by rw [z, ge] at h; cases h]
      exact h
    · refine .inl (.inr ⟨ob, ?_⟩)
      rw [upd_ne fun z => by rw [z, ge] at h; cases h]
      exact h
    · exact .inr h
  have keepB : ∀ {G : Hp} {fs : List (Str × V)} {o : HO} {v : V} {t : Ti}, G e = some (.ins C dx fs) → (∀ a, v = V.ref a → a ≠ e) → TbAt K G CT v t → TbAt K (upd G e o) CT v t := fun {G fs o v t} ge ne h => by
    obtain ⟨a, ev, ⟨dx', a2, a3, a4, h1, h2, h3, h4⟩, m2, m3, m4⟩ := h
    have up : ∀ {b xs}, TupE K G b xs → TupE K (upd G e o) b xs := fun {b xs} h => by
      rcases h with h | ⟨ob, h, hd⟩
      · exact .inl h
      · refine .inr ⟨ob, ?_, hd⟩
        rw [upd_ne fun z => by rw [z, ge] at h; cases h]
        exact h
    refine ⟨a, ev, ⟨dx', a2, a3, a4, ?_, up h2, up h3, up h4⟩, m2, m3, m4⟩
    rw [upd_ne (ne a ev)]
    exact h1
  have he2 := s12 _ _ he
  have nE : ∀ v ∈ ws, ∀ a, v = V.ref a → a ≠ e := fun v m a ea z => by
    obtain ⟨i, hi⟩ := List.mem_iff_getElem?.mp m
    obtain ⟨ti, et, b, eb, ⟨dx', b2, b3, b4, hb, _⟩, _⟩ := each_get hts hi
    rw [ea] at eb
    have := V.ref.inj eb
    rw [← this, z, he] at hb
    have := HO.ins.inj (Option.some.inj hb)
    cases this.2.2
  have hp3 : SqT K (upd H2 e (.ins C dx (putF "_tables" (.ref p) []))) p ws := keepT he2 (sameT s12 hp)
  have hts3 : TbsAt K (upd H2 e (.ins C dx (putF "_tables" (.ref p) []))) CT ws ts := by
    have m : ∀ {vs : List V} {us : List Ti}, (∀ v ∈ vs, v ∈ ws) → TbsAt K H2 CT vs us → TbsAt K (upd H2 e (.ins C dx (putF "_tables" (.ref p) []))) CT vs us := by
      intro vs us sub z
      induction z with
      | nil => exact .nil
      | cons a _ ih => exact .cons (keepB he2 (nE _ (sub _ List.mem_cons_self)) a) (ih fun v hv => sub v (List.mem_cons_of_mem _ hv))
    exact m (fun _ h => h) (tbs_same hts s12)
  have he3 : upd H2 e (.ins C dx (putF "_tables" (.ref p) [])) e = some (.ins C dx [("_tables", .ref p)]) := upd_same
  have old3 : ∀ b o, b ≠ e → H b = some o → upd H2 e (.ins C dx (putF "_tables" (.ref p) [])) b = some o := fun b o n q => by
    rw [upd_ne n]
    exact s12 b o q
  have none3 : ∀ b, upd H2 e (.ins C dx (putF "_tables" (.ref p) [])) b = none → H b = none := fun b q => by
    by_cases z : b = e
    · rw [z, he3] at q
      cases q
    · rw [upd_ne z] at q
      exact s12.free q
  generalize upd H2 e (.ins C dx (putF "_tables" (.ref p) [])) = H3 at hp3 hts3 he3 old3 none3 ⊢
  refine ⟨_, rfl, p, rfl, ⟨_, hp3⟩, fun R hR => ?_⟩
  have field3 : ∀ {G : Hp} {i : Nat} {y : V}, Same H3 G → ws[i]? = some y → ∃ ti a dx2 fs, ts[i]? = some ti ∧ y = V.ref a ∧ G a = some (.ins CT dx2 fs) ∧ fs.lookup ("name" : Str) = some (V.str ti.nm) := fun {G i y} s2 hi => by
    obtain ⟨ti, et, a, rfl, tb⟩ := each_get hts3 hi
    obtain ⟨dx2, a2, a3, a4, ha, _⟩ := (tb.same s2).ex
    exact ⟨ti, a, dx2, _, et, rfl, ha, rfl⟩
  refine dc_tup (K := K) (a := p) (xs := ws) (fun i H' => Same H3 H' ∧ ∃ qs, H' R = some (.dK (kvsOf (ts.take i) qs)) ∧ qs.length = i ∧ RTups H' qs (List.replicate i [])) ⟨same_upd hR, [], upd_same, rfl, .nil⟩ (fun i H' _ z => sameT z.1 hp3) ?_ ?_
  · rintro i y H4 hi ⟨s4, qs, e4, lq, rt⟩
    refine ⟨rfl, ?_⟩
    dsimp only [tYes]
    rw [if_pos rfl]
    obtain ⟨ti, a, dx2, fs, et, rfl, ha, hf⟩ := field3 s4 hi
    have li := (List.getElem?_eq_some_iff.mp hi).1
    refine ⟨_, rfl, a, CT, dx2, fs, _, rfl, ha, U.cl, U.n1, hf, by show 0 ≤ sizeLine; omega, fun q o hq hod => ?_⟩
    have qR : R ≠ q := fun z => by
      rw [← z, e4] at hq
      cases hq
    have sq := same_upd (o := .frz o (.tup [])) hq
    refine ⟨_, Sum.inr ti.nm, rfl, sq _ _ e4, ?_, fun b u eu => ?_, qs ++ [q], ?_, by rw [List.length_append, lq]; rfl, ?_⟩
    · unfold kvsOf
      rw [List.length_zipWith]
      omega
    · rw [upd_ne (ne_of_none eu hR)]
      exact sq _ _ (s4 b u eu)
    · rw [upd_same, kvs_next nd et lq]
    · have fz : Fz H4 (upd (upd H4 q (.frz o (.tup []))) R (.dK (putK (kvsOf (ts.take i) qs) (Sum.inr ti.nm) (.ref q)))) := fun b ob xs eb => by
        rw [upd_ne fun z => by rw [z, e4] at eb; cases eb]
        exact sq _ _ eb
      rw [List.replicate_succ']
      refine each_append (rt.mono fun _ _ z => z.keep fz) (.cons ⟨o, [], ?_, hod, .nil⟩ .nil)
      rw [upd_ne qR.symm, upd_same]
  · rintro H4 ⟨s4, qs, e4, lq, rt⟩
    rw [lw, List.take_length] at e4
    rw [lw] at lq rt
    refine ⟨_, rfl, e, C, dx, _, rfl, s4 _ _ he3, S.cl, S.nR, by show 1 < 1000; decide, ?_⟩
    have he4 := s4 _ _ he3
    have hR0 : H R = none := none3 R hR
    have Re : R ≠ e := fun z => by
      rw [z, he] at hR0
      cases hR0
    have fz5 : Fz H4 (upd H4 e (.ins C dx (putF "_rows" (.ref R) [("_tables", .ref p)]))) := fun b ob xs eb => by
      rw [upd_ne fun z => by rw [z, he4] at eb; cases eb]
      exact eb
    refine k _ R qs (fun b o n eb => ?_) hR0 ⟨upd_same, keepT he4 (sameT s4 hp3), ?_, ?_, ?_, lq, nd, l3⟩
    · rw [upd_ne n]
      exact s4 _ _ (old3 b o n eb)
    · have m : ∀ {vs : List V} {us : List Ti}, (∀ v ∈ vs, v ∈ ws) → TbsAt K H4 CT vs us → TbsAt K (upd H4 e (.ins C dx (putF "_rows" (.ref R) [("_tables", .ref p)]))) CT vs us := by
        intro vs us sub z
        induction z with
        | nil => exact .nil
        | cons a _ ih => exact .cons (keepB he4 (nE _ (sub _ List.mem_cons_self)) a) (ih fun v hv => sub v (List.mem_cons_of_mem _ hv))
      exact m (fun _ h => h) (tbs_same hts3 s4)
    · rw [upd_ne Re]
      exact e4
    · have e6 : (ts.map fun _ => ([] : List Row)) = List.replicate ts.length [] := by
        rw [List.map_const']
      rw [e6]
      exact rt.mono fun _ _ z => z.keep fz5
end
end Vm
/-! the law: columns -/
namespace Vm
open PySem L2
abbrev sColumnsL : Stmt := top 44
theorem But.put {s l : Addr} {H H2 : Hp} {D : Addr} {u : HO} (k : But s l H H2) (hD : H D = none) : But s l H (L2.upd H2 D u) := fun c o n1 n2 e => by
  rw [upd_ne fun q => by rw [q, hD] at e; exact nomatch e]
  exact k c o n1 n2 e
theorem Src.put {s l : Addr} {H : Hp} {ms : List Int} {z b : Int} {D : Addr} {u : HO} (h : Src H s l ms z b) (off : Off s l D) : Src (L2.upd H D u) s l ms z b := ⟨by
  rw [upd_ne off.1.symm]
  exact h.hs, by
  rw [upd_ne off.2.symm]
  exact h.hl, h.len⟩
/-- len of a list or a tuple -/
def rLenS (K : PySem.W.Frag) : List V → Hp → VK → Prop := fun xs H Q => ∃ p ys, xs = [.ref p] ∧ (SqL K H p ys ∨ SqT K H p ys) ∧ Q (.int ys.length) H
def tenC : List Str := ["a", "b", "ab", "p", "names", "key", "row", "old", "abcdefgh", "abcdefgz"]
def moreC : Str := "cdefghijklmnoqrstuvwxyz"
theorem tenC_nm : tenC.all nmS = true := by decide +kernel
theorem moreC_ok : (moreC.cps.toList.all fun c => nmS ⟨#[c]⟩ && !tenC.any (· == ⟨#[c]⟩)) = true := by decide +kernel
theorem tenC_nd : tenC.Nodup := by decide +kernel
theorem map_eraseIdx2 {α β : Type} (f : α → β) : ∀ (xs : List α) (j : Nat), (xs.map f).eraseIdx j = (xs.eraseIdx j).map f
  | [], _ => rfl
  | _ :: _, 0 => rfl
  | x :: r, j + 1 => congrArg (f x :: ·) (map_eraseIdx2 f r j)
theorem erase_perm {α : Type} : ∀ (xs : List α) (j : Nat) (h : j < xs.length), (xs[j] :: xs.eraseIdx j).Perm xs
  | [], _, h => absurd h (Nat.not_lt_zero _)
  | _ :: _, 0, _ => List.Perm.refl _
  | x :: r, j + 1, h => (List.Perm.swap _ _ _).trans ((erase_perm r j (Nat.lt_of_succ_lt_succ h)).cons x)
def spColumnsL : Sp := fun vs H Q _ => ∃ (s l : Addr) (ms : List Int) (z b m : Int), vs = [.ref s, .int m] ∧ Src H s l ms z b ∧ 0 ≤ b ∧ b < 900000 ∧ 1 ≤ m ∧ m ≤ 4 ∧
  ∀ (H' : Hp) (ms' : List Int) (b' : Int) (p : Addr) (cs : List Str), But s l H H' → Src H' s l ms' z b' → b ≤ b' → b' ≤ b + 5 → H p = none → H' p = some (.lst (cs.map V.str)) → (cs.length : Int) = m → cs.Nodup → cs.all nmS = true → Q (.ref p) H'
section
variable {P : Program} {w : World} {K : PySem.W.Frag} {mg : Str → Option Value} {base : Heap} {fD fP : Addr}
theorem scColumnsL : FnScope ["_law_source_here", "_law_many", "_law_left", "_law_k"] ["_law_source_here", "_law_many"] (defScope sColumnsL) := ⟨rfl, rfl, rfl, by decide +kernel, rfl, by decide +kernel, by decide +kernel⟩
theorem ok_columnsl {f : Addr} {fd fdD fdP : FuncData} (F : Fun K "_law_columns" "_law_columns" sColumnsL f fd) (T : TxtL K mg fD fP) (GD : FnOk P w K mg base CX0 1 fD fdD ["_law_source_here", "_law_many"] spDraw) (bD : Binds K fdD ["_law_source_here", "_law_many"] [])
    (GP : FnOk P w K mg base CX0 2 fP fdP ["_law_source_here", "_law_items"] (spPick K)) (bP : Binds K fdP ["_law_source_here", "_law_items"] []) : FnOk P w K mg base CX0 3 f fd ["_law_source_here", "_law_many"] spColumnsL := by
  refine F.ok scColumnsL (fun vs H Q E h => ?_) (fun cdv A outer s H vs Q E hr h => ?_)
  · obtain ⟨s, l, ms, z, b, m, rfl, _⟩ := h
    rfl
  · obtain ⟨a, l, ms, z, b, m, rfl, hs, b0, b1, m1, m4, k⟩ := h
    have hr1 : Room 1 _ := hr.mono (by decide)
    refine ⟨_, pss_cons (ps_set (i := 2) scColumnsL.nd rfl (Or.inr rfl) (pe_lst (pa_cons pe_str (pa_cons pe_str (pa_cons pe_str (pa_cons pe_str (pa_cons pe_str (pa_cons pe_str (pa_cons pe_str (pa_cons pe_str (pa_cons pe_str (pa_cons pe_str pa_nil))))))))))))
      (pss_cons (ps_expr (pe_bm PySem.F.plainAttrs_list PySem.F.slot_list_append PySem.F.type_list_append mt_append (pv 2) (pa_cons (pe_call GP hr rfl T.gP T.kP bP .nil pass0 (pa_cons (pv 0) (pa_cons pe_str pa_nil))) pa_nil)))
      (pss_one (ps_ret (pe_lc (own := [("_law_k", 3)]) (g := gName 3) (tt := tYes) (te := tBM K "list" rPopAt (tVar 2) (tCons (tCall spDraw [] E0 (tCons (tVar 0) (tCons (tCB (rLenS K) (tCons (tVar 2) tNil)) tNil))) tNil)) rfl scColumnsL.nd (pi_range1 rfl T.range (pa_cons (pv 1) pa_nil))
          (blkOk_by (N := ["_law_source_here", "_law_many", "_law_left", "_law_k"]) (sc := defScope sColumnsL) (by decide +kernel)) (fun _ _ _ _ _ => pg_name (i := 3) scColumnsL.nd rfl (Or.inl rfl)) (fun _ _ _ _ _ => pts_nil)
          (fun _ _ _ _ _ => by exact (pe_bm PySem.F.plainAttrs_list PySem.F.slot_list_pop PySem.F.type_list_pop mt_popAt (pv 2) (pa_cons (pe_call GD hr1 rfl T.gD T.kD bD .nil pass0 (pa_cons (pv 0) (pa_cons (pe_callB call_len_seq (by rfl) T.len (by decide +kernel) (pa_cons (pv 2) pa_nil)) pa_nil))) pa_nil))))))), ?_⟩
    have big : sizeLine > 1000 := by decide
    refine ⟨by show 10 ≤ sizeLine; omega, fun L hL => ?_⟩
    obtain ⟨La, Ll⟩ := hs.free hL
    have k0 : But a l H (upd H L (.lst (tenC.map V.str))) := But.put (fun _ _ _ _ e => e) hL
    have hs0 : Src (upd H L (.lst (tenC.map V.str))) a l ms z b := hs.put ⟨La, Ll⟩
    have e0 : upd H L (.lst (tenC.map V.str)) L = some (.lst (tenC.map V.str)) := upd_same
    show tSeq _ _ _ _ (upd H L (.lst (tenC.map V.str)))
    generalize upd H L (.lst (tenC.map V.str)) = H0 at k0 hs0 e0 ⊢
    refine ⟨_, rfl, .inl ⟨rfl, _, SqL.of e0⟩, _, rfl, a, l, .str moreC, ms, z, b, rfl, hs0, by omega, by omega, .inr ⟨moreC, rfl, by decide +kernel, by decide +kernel, fun H1 ms1 c k1 hs1 hc => ?_⟩⟩
    have e1 := k1 _ _ La Ll e0
    have cc := List.all_eq_true.mp moreC_ok c hc
    rw [Bool.and_eq_true] at cc
    refine ⟨L, _, _, rfl, rfl, e1, by show 10 < sizeLine; omega, ?_⟩
    have k2 : But a l H (upd H1 L (.lst (tenC.map V.str ++ [V.str ⟨#[c]⟩]))) := (k0.trans k1).put hL
    have hs2 : Src (upd H1 L (.lst (tenC.map V.str ++ [V.str ⟨#[c]⟩]))) a l ms1 z (b + 1) := hs1.put ⟨La, Ll⟩
    have e2 : upd H1 L (.lst (tenC.map V.str ++ [V.str ⟨#[c]⟩])) L = some (.lst ((tenC ++ [(⟨#[c]⟩ : Str)]).map V.str)) := by
      rw [upd_same, List.map_append]
      rfl
    have nd : (tenC ++ [(⟨#[c]⟩ : Str)]).Nodup := by
      refine List.nodup_append.mpr ⟨tenC_nd, by simp, fun x hx y hy e => ?_⟩
      have n2 := cc.2
      rw [List.mem_singleton.mp hy] at e
      have : tenC.any (fun q => q == (⟨#[c]⟩ : Str)) = true := List.any_eq_true.mpr ⟨x, hx, beq_iff_eq.mpr e⟩
      have n3 : (!tenC.any (fun q => q == (⟨#[c]⟩ : Str))) = true := n2
      rw [this] at n3
      cases n3
    have nm : (tenC ++ [(⟨#[c]⟩ : Str)]).all nmS = true := by
      rw [List.all_append, tenC_nm, Bool.true_and]
      show (nmS ⟨#[c]⟩ && true) = true
      rw [cc.1]
      rfl
    have len : (tenC ++ [(⟨#[c]⟩ : Str)]).length = 11 := rfl
    show tSeq _ _ _ _ (upd H1 L (.lst (tenC.map V.str ++ [V.str ⟨#[c]⟩])))
    generalize upd H1 L (.lst (tenC.map V.str ++ [V.str ⟨#[c]⟩])) = H2 at k2 hs2 e2 ⊢
    generalize tenC ++ [(⟨#[c]⟩ : Str)] = all at e2 nd nm len
    refine ⟨_, rfl, m, rfl, by omega, by omega, fun D hD => ?_⟩
    obtain ⟨Da, Dl⟩ := hs2.free hD
    have hDH := k2.back hs2 hD
    have DL : D ≠ L := fun q => by
      rw [q, e2] at hD
      cases hD
    refine lc_range (lo := 0) (n := m.toNat) (fun i H' => ∃ (ms' : List Int) (left got : List Str), But a l H H' ∧ Src H' a l ms' z (b + 1 + (i : Int)) ∧ H' L = some (.lst (left.map V.str)) ∧ H' D = some (.lst (got.map V.str)) ∧ got.length = i ∧ left.length + i = 11 ∧ (left ++ got).Nodup ∧ (left ++ got).all nmS = true) ?_ ?_ ?_
    · refine ⟨ms1, all, [], k2.put hDH, ?_, ?_, upd_same, rfl, by rw [len], by rw [List.append_nil]; exact nd, by rw [List.append_nil]; exact nm⟩
      · rw [show b + 1 + ((0 : Nat) : Int) = b + 1 by omega]
        exact hs2.put ⟨Da, Dl⟩
      · rw [upd_ne DL.symm]
        exact e2
    · rintro i H3 hi ⟨ms3, left, got, k3, hs3, eL, eD, lg, ll, nd3, nm3⟩
      refine ⟨rfl, ?_⟩
      dsimp only [tYes]
      rw [if_pos rfl]
      refine ⟨_, rfl, .inl ⟨rfl, _, SqL.of eL⟩, _, rfl, _, rfl, L, _, rfl, .inl (SqL.of eL), a, l, ms3, z, b + 1 + (i : Int), ((left.map V.str).length : Nat), rfl, hs3, by rw [List.length_map]; omega, by rw [List.length_map]; omega, by omega, by omega, fun H4 ms4 r k4 hs4 r0 r1 => ?_⟩
      rw [List.length_map] at r1
      obtain ⟨j, rfl⟩ : ∃ j : Nat, r = (j : Int) := ⟨r.toNat, by omega⟩
      have hj : j < left.length := by omega
      have eL4 := k4 _ _ La Ll eL
      have eD4 := k4 _ _ Da Dl eD
      have ix : seqIndex? ((j : Nat) : Int) (left.map V.str).length = some j := by
        unfold seqIndex?
        rw [List.length_map]
        simp
        omega
      refine ⟨L, _, _, j, .str left[j], rfl, rfl, eL4, by omega, by omega, ix, by rw [List.getElem?_map, List.getElem?_eq_getElem hj]; rfl, ?_⟩
      have k5 := k3.trans k4
      refine ⟨got.map V.str, ?_, ?_, ms4, left.eraseIdx j, got ++ [left[j]], ?_, ?_, ?_, ?_, ?_, ?_, ?_, ?_⟩
      · rw [upd_ne DL]
        exact eD4
      · rw [List.length_map]
        omega
      · exact (k5.put hL).put hDH
      · rw [show b + 1 + ((i + 1 : Nat) : Int) = b + 1 + (i : Int) + 1 by omega]
        exact (hs4.put ⟨La, Ll⟩).put ⟨Da, Dl⟩
      · rw [upd_ne DL.symm, upd_same, map_eraseIdx2]
      · rw [upd_same, List.map_append]
        rfl
      · rw [List.length_append, lg]
        rfl
      · rw [List.length_eraseIdx, if_pos hj]
        omega
      · have pm : (left.eraseIdx j ++ (got ++ [left[j]])).Perm (left ++ got) := by
          have p1 : (left[j] :: left.eraseIdx j).Perm left := erase_perm left j hj
          have p2 : (left.eraseIdx j ++ (got ++ [left[j]])).Perm ((left[j] :: left.eraseIdx j) ++ got) := by
            rw [← List.append_assoc]
            refine List.perm_append_comm.trans ?_
            exact List.Perm.refl _
          exact p2.trans (List.Perm.append_right got p1)
        exact pm.nodup_iff.mpr nd3
      · rw [List.all_eq_true] at nm3 ⊢
        intro x hx
        refine nm3 x ?_
        rcases List.mem_append.mp hx with h | h
        · exact List.mem_append_left _ (List.mem_of_mem_eraseIdx h)
        · rcases List.mem_append.mp h with h | h
          · exact List.mem_append_right _ h
          · rw [List.mem_singleton.mp h]
            exact List.mem_append_left _ (List.getElem_mem hj)
    · rintro H3 ⟨ms3, left, got, k3, hs3, eL, eD, lg, ll, nd3, nm3⟩
      rw [List.all_append, Bool.and_eq_true] at nm3
      exact k H3 ms3 _ D got k3 hs3 (by omega) (by omega) hDH eD (by omega) (List.nodup_append.mp nd3).2.1 nm3.2
end
end Vm
/-! the law: arguments of a table -/
namespace Vm
open PySem L2
abbrev sArgs : Stmt := top 45
theorem TupS.fz {H H' : Hp} {c : Addr} {ss : List Str} (k : Fz H H') (h : TupS H c ss) : TupS H' c ss := let ⟨o, h, d⟩ := h; ⟨o, k _ _ _ h, d⟩
/-- the four arguments of a table stand at sm -/
def ArgT (H : Hp) (sm : Addr) (t : Ti) : Prop := ∃ (o : Obj) (a1 a2 a3 : Addr), H sm = some (.frz o (.tup [.str t.nm, .ref a1, .ref a2, .ref a3])) ∧ o.dict = none ∧ TupS H a1 t.ss ∧ TupS H a2 t.zs ∧ TupS H a3 t.ks
theorem ArgT.fz {H H' : Hp} {sm : Addr} {t : Ti} (k : Fz H H') (h : ArgT H sm t) : ArgT H' sm t := let ⟨o, a1, a2, a3, h0, d, h1, h2, h3⟩ := h; ⟨o, a1, a2, a3, k _ _ _ h0, d, h1.fz k, h2.fz k, h3.fz k⟩
/-- right arguments -/
structure TiOk (t : Ti) : Prop where
  g : t.ok
  kf : t.ks = t.cols.filter fun z => t.ks.any (· == z)
/-- some of the columns, in their order -/
theorem sub_filter {cs es : List Str} (nd : cs.Nodup) (h : es.Sublist cs) : es = cs.filter fun z => es.any (· == z) := by
  have e : es = cs.filter fun z => decide (z ∈ es) := by
    induction h with
    | slnil => rfl
    | @cons l1 l2 a s ih =>
      rw [List.nodup_cons] at nd
      have na : a ∉ l1 := fun m => nd.1 (s.subset m)
      rw [List.filter_cons, if_neg (by rw [decide_eq_false na]; decide)]
      exact ih nd.2
    | @cons_cons l1 l2 a s ih =>
      rw [List.nodup_cons] at nd
      rw [List.filter_cons, if_pos (by rw [decide_eq_true List.mem_cons_self])]
      congr 1
      have ih' := ih nd.2
      have q : (l2.filter fun z => decide (z ∈ a :: l1)) = l2.filter fun z => decide (z ∈ l1) := by
        refine List.filter_congr fun x hx => decide_eq_decide.mpr ?_
        rw [List.mem_cons]
        exact ⟨fun m => m.resolve_left fun e => nd.1 (e ▸ hx), Or.inr⟩
      rw [q]
      exact ih'
  have f : (fun z => es.any (· == z)) = fun z => decide (z ∈ es) := by
    funext z
    rw [Bool.eq_iff_iff, List.any_eq_true, decide_eq_true_eq]
    exact ⟨fun ⟨y, hy, e⟩ => (beq_iff_eq.mp e) ▸ hy, fun m => ⟨z, m, beq_self_eq_true z⟩⟩
  rw [f]
  exact e
def spArgs : Sp := fun vs H Q _ => ∃ (s l : Addr) (ms : List Int) (z b : Int) (nm : Str), vs = [.ref s, .str nm] ∧ Src H s l ms z b ∧ 0 ≤ b ∧ b < 800000 ∧ nmS nm = true ∧
  ∀ (H' : Hp) (ms' : List Int) (b' : Int) (p : Addr) (t : Ti), But s l H H' → Src H' s l ms' z b' → b ≤ b' → b' ≤ b + 20 → H p = none → ArgT H' p t → TiOk t → t.nm = nm → Q (.ref p) H'
section
variable {P : Program} {w : World} {K : PySem.W.Frag} {mg : Str → Option Value} {base : Heap} {fD fP fC : Addr}
theorem scArgs : FnScope ["_law_source_here", "_law_title", "_law_many", "_law_columns_here", "_law_split", "_law_key_here", "_law_column"] ["_law_source_here", "_law_title"] (defScope sArgs) := ⟨rfl, rfl, rfl, by decide +kernel, rfl, by decide +kernel, by decide +kernel⟩
theorem ok_args {f : Addr} {fd fdD fdC : FuncData} (F : Fun K "_law_arguments" "_law_arguments" sArgs f fd) (T : TxtL K mg fD fP) (min : mg "min" = none) (max : mg "max" = none) (GD : FnOk P w K mg base CX0 1 fD fdD ["_law_source_here", "_law_many"] spDraw) (bD : Binds K fdD ["_law_source_here", "_law_many"] [])
    (cC : Calls K mg "_law_columns" fC) (GC : FnOk P w K mg base CX0 3 fC fdC ["_law_source_here", "_law_many"] spColumnsL) (bC : Binds K fdC ["_law_source_here", "_law_many"] []) : FnOk P w K mg base CX0 4 f fd ["_law_source_here", "_law_title"] spArgs := by
  refine F.ok scArgs (fun vs H Q E h => ?_) (fun cdv A outer s H vs Q E hr h => ?_)
  · obtain ⟨s, l, ms, z, b, nm, rfl, _⟩ := h
    rfl
  · obtain ⟨a, l, ms, z, b, nm, rfl, hs, b0, b1, nn, k⟩ := h
    have hr1 : Room 1 _ := hr.mono (by decide)
    refine ⟨_, pss_cons (ps_set (i := 2) scArgs.nd rfl (Or.inl rfl) (pe_op op_add pe_int (pe_call GD hr1 rfl T.gD T.kD bD .nil pass0 (pa_cons (pv 0) (pa_cons pe_int pa_nil)))))
      (pss_cons (ps_set (i := 3) scArgs.nd rfl (Or.inl rfl) (pe_call GC hr rfl cC.g cC.k bC .nil pass0 (pa_cons (pv 0) (pa_cons (pv 2) pa_nil))))
      (pss_cons (ps_set (i := 4) scArgs.nd rfl (Or.inl rfl) (pe_callB (call_max2 rfl) (by rfl) max (by decide +kernel) (pa_cons (pe_op op_sub (pv 2) pe_int)
        (pa_cons (pe_callB (call_min2 rfl) (by rfl) min (by decide +kernel) (pa_cons pe_int (pa_cons (pe_call GD hr1 rfl T.gD T.kD bD .nil pass0 (pa_cons (pv 0) (pa_cons (pe_op op_add (pv 2) pe_int) pa_nil))) pa_nil))) pa_nil))))
      (pss_cons (ps_set (i := 5) scArgs.nd rfl (Or.inl rfl) (pe_op op_rep (pe_lc (own := [("_law_column", 6)]) (g := gName 6) (te := tVar 6) rfl scArgs.nd (pi_list (pv 3))
            (blkOk_by (N := ["_law_source_here", "_law_title", "_law_many", "_law_columns_here", "_law_split", "_law_key_here", "_law_column"]) (sc := defScope sArgs) (by decide +kernel))
            (fun _ _ _ _ _ => pg_name (i := 6) scArgs.nd rfl (Or.inl rfl)) (fun _ _ _ _ _ => pts_one (pt_cmpR op_eq (pe_call GD hr1 rfl T.gD T.kD bD .nil pass0 (pa_cons (pv 0) (pa_cons pe_int pa_nil))) pe_int (nomark _))) (fun _ _ _ _ _ => by exact (pv 6)))
          (pe_call GD hr1 rfl T.gD T.kD bD .nil pass0 (pa_cons (pv 0) (pa_cons pe_int pa_nil)))))
      (pss_one (ps_ret (pe_tupF (pa_cons (pv 1)
        (pa_cons (pe_callTy call_tupleF (by rfl) T.tuple (by decide +kernel) (pa_cons (pe_slice sl_list (pv 3) po_none (po_some (pv 4))) pa_nil))
        (pa_cons (pe_callTy call_tupleF (by rfl) T.tuple (by decide +kernel) (pa_cons (pe_slice sl_list (pv 3) (po_some (pv 4)) po_none) pa_nil))
        (pa_cons (pe_callTy call_tupleF (by rfl) T.tuple (by decide +kernel) (pa_cons (pv 5) pa_nil)) pa_nil)))))))))), ?_⟩
    have big : sizeLine > 1000 := by decide
    refine ⟨_, rfl, a, l, ms, z, b, 4, rfl, hs, by decide, by decide, b0, by omega, fun H1 ms1 r1 k1 hs1 p1 q1 => ⟨_, _, rfl, rfl, ?_⟩⟩
    refine ⟨_, rfl, _, rfl, a, l, ms1, z, b + 1, 1 + r1, rfl, hs1, by omega, by omega, by omega, by omega, fun H2 ms2 b2 L cs k2 hs2 c1 c2 hL eL lc nd nc => ?_⟩
    have L1 := hs1.free hL
    have k12 := k1.trans k2
    refine ⟨_, rfl, _, _, rfl, rfl, _, rfl, _, rfl, _, _, rfl, rfl, a, l, ms2, z, b2, 1 + r1 + 1, rfl, hs2, by omega, by omega, by omega, by omega, fun H3 ms3 r2 k3 hs3 p2 q2 => ⟨_, _, rfl, _, _, rfl, ?_⟩⟩
    have e3 := k3 _ _ L1.1 L1.2 eL
    have k13 := k12.trans k3
    have spb : 1 + r1 - 2 ≤ (if (if r2 < 2 then r2 else 2) > 1 + r1 - 2 then (if r2 < 2 then r2 else 2) else 1 + r1 - 2) ∧ (if (if r2 < 2 then r2 else 2) > 1 + r1 - 2 then (if r2 < 2 then r2 else 2) else 1 + r1 - 2) ≤ 2 ∧ 0 ≤ (if (if r2 < 2 then r2 else 2) > 1 + r1 - 2 then (if r2 < 2 then r2 else 2) else 1 + r1 - 2) ∧ (if (if r2 < 2 then r2 else 2) > 1 + r1 - 2 then (if r2 < 2 then r2 else 2) else 1 + r1 - 2) ≤ 1 + r1 := by
      split <;> split <;> omega
    generalize (if (if r2 < 2 then r2 else 2) > 1 + r1 - 2 then (if r2 < 2 then r2 else 2) else 1 + r1 - 2) = sp at spb ⊢
    obtain ⟨n, rfl⟩ : ∃ n : Nat, sp = (n : Int) := ⟨sp.toNat, by omega⟩
    refine ⟨_, rfl, L, rfl, ⟨_, SqL.of e3⟩, fun D hD => ?_⟩
    have Do := hs3.free hD
    have hDH := k13.back hs3 hD
    have DL : D ≠ L := fun q => by
      rw [q, e3] at hD
      cases hD
    refine lc_list (K := K) (a := L) (xs := cs.map V.str) (fun j H' => ∃ (ms' : List Int) (es : List Str), But a l H H' ∧ Src H' a l ms' z (b2 + 1 + (j : Int)) ∧ H' D = some (.lst (es.map V.str)) ∧ es.Sublist (cs.take j) ∧ H' L = some (.lst (cs.map V.str))) ?_ (fun j H' _ ⟨_, _, _, _, _, _, q⟩ => SqL.of q) ?_ ?_
    · refine ⟨ms3, [], k13.put hDH, ?_, upd_same, List.nil_sublist _, ?_⟩
      · rw [show b2 + 1 + ((0 : Nat) : Int) = b2 + 1 by omega]
        exact hs3.put Do
      · rw [upd_ne DL.symm]
        exact e3
    · rintro j y H4 hj ⟨ms4, es, k4, hs4, e4, sub, eL4⟩
      obtain ⟨u, eu, rfl⟩ := map_at hj
      have jl : j < cs.length := (List.getElem?_eq_some_iff.mp eu).1
      have le : es.length ≤ j := by
        have := sub.length_le
        rw [List.length_take] at this
        omega
      refine ⟨rfl, _, rfl, a, l, ms4, z, b2 + 1 + (j : Int), 2, rfl, hs4, by decide, by decide, by omega, by omega, fun H5 ms5 r k5 hs5 p5 q5 => ⟨rfl, _, rfl, ?_⟩⟩
      have e5 := k5 _ _ Do.1 Do.2 e4
      have eL5 := k5 _ _ L1.1 L1.2 eL4
      have ej : b2 + 1 + ((j + 1 : Nat) : Int) = b2 + 1 + (j : Int) + 1 := by omega
      have tk : cs.take (j + 1) = cs.take j ++ [u] := by rw [List.take_add_one, eu]; rfl
      refine ite_ (fun _ => ?_) (fun _ => ?_)
      · refine ⟨_, rfl, _, e5, by rw [List.length_map]; omega, ms5, es ++ [u], (k4.trans k5).put hDH, ?_, ?_, ?_, ?_⟩
        · rw [ej]
          exact hs5.put Do
        · rw [upd_same, List.map_append]
          rfl
        · rw [tk]
          exact sub.append (List.Sublist.refl _)
        · rw [upd_ne DL.symm]
          exact eL5
      · refine ⟨ms5, es, k4.trans k5, by rw [ej]; exact hs5, e5, ?_, eL5⟩
        rw [tk]
        exact sub.trans (List.sublist_append_left _ _)
    rintro H4 ⟨ms4, es, k4, hs4, e4, sub, eL4⟩
    rw [List.length_map] at hs4 sub
    rw [List.take_length] at sub
    have les := sub.length_le
    refine ⟨_, rfl, a, l, ms4, z, b2 + 1 + (cs.length : Int), 2, rfl, hs4, by decide, by decide, by omega, by omega, fun H5 ms5 r3 k5 hs5 p5 q5 => ?_⟩
    have k15 := k4.trans k5
    have e5 := k5 _ _ Do.1 Do.2 e4
    have eL5 := k5 _ _ L1.1 L1.2 eL4
    obtain ⟨fs, efs, fsub⟩ : ∃ fs : List Str, (List.replicate r3.toNat (es.map V.str)).flatten = fs.map V.str ∧ fs.Sublist cs := by
      have r01 : r3.toNat = 0 ∨ r3.toNat = 1 := by omega
      rcases r01 with e | e
      · exact ⟨[], by rw [e]; rfl, List.nil_sublist _⟩
      · exact ⟨es, by rw [e, List.replicate_one, List.flatten_cons, List.flatten_nil, List.append_nil], sub⟩
    refine ⟨D, r3, _, rfl, rfl, e5, by omega, by omega, ?_, fun R hR => ?_⟩
    · rw [List.length_map]
      have r01 : r3.toNat = 0 ∨ r3.toNat = 1 := by omega
      rcases r01 with e | e <;> rw [e] <;> omega
    rw [efs]
    have Ro := hs5.free hR
    have hRH := k15.back hs5 hR
    have s5 := same_upd (o := .lst (fs.map V.str)) hR
    have k16 : But a l H (upd H5 R (.lst (fs.map V.str))) := k15.put hRH
    have hs6 : Src (upd H5 R (.lst (fs.map V.str))) a l ms5 z (b2 + 1 + (cs.length : Int) + 1) := hs5.put Ro
    have eL6 := s5 _ _ eL5
    have eR6 : upd H5 R (.lst (fs.map V.str)) R = some (.lst (fs.map V.str)) := upd_same
    show tSeq _ _ _ _ (upd H5 R (.lst (fs.map V.str)))
    generalize upd H5 R (.lst (fs.map V.str)) = H6 at k16 hs6 eL6 eR6 ⊢
    have cm1 : cutV (cs.map V.str) none (some (n : Int)) = (cs.take n).map V.str := by rw [cut_take, List.map_take]
    have cm2 : cutV (cs.map V.str) (some (n : Int)) none = (cs.drop n).map V.str := by rw [cut_drop, List.map_drop]
    refine ⟨_, rfl, _, rfl, _, rfl, _, rfl, L, _, rfl, SqL.of eL6, fun o1 ho1 => ⟨o1, _, rfl, SqL.of upd_same, fun t1 ob1 ht1 hd1 => ?_⟩⟩
    rw [cm1] at ht1 ⊢
    have s1 := (same_upd (o := .lst ((cs.take n).map V.str)) ho1).trans (same_upd (o := .frz ob1 (.tup ((cs.take n).map V.str))) ht1)
    have T1 : TupS (upd (upd H6 o1 (.lst ((cs.take n).map V.str))) t1 (.frz ob1 (.tup ((cs.take n).map V.str)))) t1 (cs.take n) := ⟨ob1, upd_same, hd1⟩
    show tCons _ _ _ _ _
    generalize upd (upd H6 o1 (.lst ((cs.take n).map V.str))) t1 (.frz ob1 (.tup ((cs.take n).map V.str))) = H7 at s1 T1 ⊢
    refine ⟨_, rfl, _, rfl, _, rfl, L, _, rfl, SqL.of (s1 _ _ eL6), fun o2 ho2 => ⟨o2, _, rfl, SqL.of upd_same, fun t2 ob2 ht2 hd2 => ?_⟩⟩
    rw [cm2] at ht2 ⊢
    have s2' := (same_upd (o := .lst ((cs.drop n).map V.str)) ho2).trans (same_upd (o := .frz ob2 (.tup ((cs.drop n).map V.str))) ht2)
    have T2 : TupS (upd (upd H7 o2 (.lst ((cs.drop n).map V.str))) t2 (.frz ob2 (.tup ((cs.drop n).map V.str)))) t2 (cs.drop n) := ⟨ob2, upd_same, hd2⟩
    have T1 := T1.same s2'
    have s2 := s1.trans s2'
    show tCons _ _ _ _ _
    generalize upd (upd H7 o2 (.lst ((cs.drop n).map V.str))) t2 (.frz ob2 (.tup ((cs.drop n).map V.str))) = H8 at s2 T1 T2 ⊢
    refine ⟨_, rfl, R, _, rfl, SqL.of (s2 _ _ eR6), fun t3 ob3 ht3 hd3 => ⟨by show 4 ≤ sizeLine; omega, fun q ob hq hd => ?_⟩⟩
    have s3' := same_upd (o := .frz ob3 (.tup (fs.map V.str))) ht3
    have T3 : TupS (upd H8 t3 (.frz ob3 (.tup (fs.map V.str)))) t3 fs := ⟨ob3, upd_same, hd3⟩
    have s4' := same_upd (o := .frz ob (.tup [V.str nm, .ref t1, .ref t2, .ref t3])) hq
    have s14 := (s2.trans s3').trans s4'
    have hs9 := hs6.but s14
    have k19 := k16.trans (.of_same (s := a) (l := l) s14)
    have hqH := (k16.trans (.of_same (s := a) (l := l) (s2.trans s3'))).back (hs6.but (s2.trans s3')) hq
    have sum := List.take_append_drop n cs
    have la := congrArg List.length sum
    rw [List.length_append, List.length_take, List.length_drop] at la
    refine k _ ms5 _ q ⟨nm, cs.take n, cs.drop n, fs⟩ k19 hs9 (by omega) (by omega) hqH ⟨ob, t1, t2, t3, upd_same, hd, T1.same (s3'.trans s4'), T2.same (s3'.trans s4'), T3.same s4'⟩ ⟨⟨nn, ?_, ?_, ?_, ?_, ?_, ?_, ?_, ?_, ?_⟩, ?_⟩ rfl
    · exact List.all_eq_true.mpr fun x hx => List.all_eq_true.mp nc x (List.mem_of_mem_take hx)
    · exact List.all_eq_true.mpr fun x hx => List.all_eq_true.mp nc x (List.mem_of_mem_drop hx)
    · exact List.all_eq_true.mpr fun x hx => List.all_eq_true.mp nc x (fsub.subset hx)
    · show (cs.take n).length ≤ 2
      rw [List.length_take]
      omega
    · show (cs.drop n).length ≤ 2
      rw [List.length_drop]
      omega
    · show fs.length ≤ 4
      have := fsub.length_le
      omega
    · show 0 < (cs.take n ++ cs.drop n).length
      rw [sum]
      omega
    · show (cs.take n ++ cs.drop n).Nodup
      rw [sum]
      exact nd
    · show ∀ x ∈ fs, x ∈ cs.take n ++ cs.drop n
      rw [sum]
      exact fun x hx => fsub.subset hx
    · show fs = (cs.take n ++ cs.drop n).filter fun z => fs.any (· == z)
      rw [sum]
      exact sub_filter nd fsub
end
end Vm
/-! the law's world -/
namespace Vm
open PySem L2
abbrev sWorld : Stmt := top 46
/-- a table's arguments and its rows -/
def PairAt (H : Hp) (p rl : Addr) (t : Ti) (rs : List Row) : Prop := ∃ (sm : Addr) (vs : List V), H p = some (.lst [.ref sm, .ref rl]) ∧ ArgT H sm t ∧ H rl = some (.lst vs) ∧ RowsAt H vs rs
theorem PairAt.keep {H H' : Hp} {p rl : Addr} {t : Ti} {rs : List Row} (h : PairAt H p rl t rs) (k1 : ∀ o, H p = some o → H' p = some o) (k2 : ∀ o, H rl = some o → H' rl = some o) (fz : Fz H H') : PairAt H' p rl t rs :=
  let ⟨sm, vs, a, b, c, d⟩ := h; ⟨sm, vs, k1 _ a, b.fz fz, k2 _ c, d.keep fz⟩
/-- a world stands at w -/
structure Wl (H : Hp) (w : Addr) (ps rls : List Addr) (ts : List Ti) (rss : List (List Row)) : Prop where
  hw : H w = some (.lst (ps.map V.ref))
  lp : ps.length = ts.length
  lr : rls.length = ts.length
  ls : rss.length = ts.length
  pr : ∀ (i : Nat) (p rl : Addr) (t : Ti) (rs : List Row), ps[i]? = some p → rls[i]? = some rl → ts[i]? = some t → rss[i]? = some rs → PairAt H p rl t rs
  nd : (w :: (ps ++ rls)).Nodup
theorem Wl.keep {H H' : Hp} {w : Addr} {ps rls : List Addr} {ts : List Ti} {rss : List (List Row)} (h : Wl H w ps rls ts rss) (k : ∀ b ∈ w :: (ps ++ rls), ∀ o, H b = some o → H' b = some o) (fz : Fz H H') : Wl H' w ps rls ts rss :=
  ⟨k _ List.mem_cons_self _ h.hw, h.lp, h.lr, h.ls, fun i p rl t rs e1 e2 e3 e4 => (h.pr i p rl t rs e1 e2 e3 e4).keep
    (fun o e => k p (List.mem_cons_of_mem _ (List.mem_append_left _ (List.mem_of_getElem? e1))) o e) (fun o e => k rl (List.mem_cons_of_mem _ (List.mem_append_right _ (List.mem_of_getElem? e2))) o e) fz, h.nd⟩
theorem Wl.same {H H' : Hp} {w : Addr} {ps rls : List Addr} {ts : List Ti} {rss : List (List Row)} (h : Wl H w ps rls ts rss) (k : Same H H') : Wl H' w ps rls ts rss := h.keep (fun b _ o e => k b o e) (.of_same k)
theorem Wl.at {H : Hp} {w : Addr} {ps rls : List Addr} {ts : List Ti} {rss : List (List Row)} (h : Wl H w ps rls ts rss) {i : Nat} (lt : i < ts.length) : ∃ p rl t rs, ps[i]? = some p ∧ rls[i]? = some rl ∧ ts[i]? = some t ∧ rss[i]? = some rs ∧ PairAt H p rl t rs := by
  have l1 : i < ps.length := by rw [h.lp]; exact lt
  have l2 : i < rls.length := by rw [h.lr]; exact lt
  have l4 : i < rss.length := by rw [h.ls]; exact lt
  exact ⟨_, _, _, _, List.getElem?_eq_getElem l1, List.getElem?_eq_getElem l2, List.getElem?_eq_getElem lt, List.getElem?_eq_getElem l4, h.pr i _ _ _ _ (List.getElem?_eq_getElem l1) (List.getElem?_eq_getElem l2) (List.getElem?_eq_getElem lt) (List.getElem?_eq_getElem l4)⟩
theorem Wl.there {H : Hp} {w : Addr} {ps rls : List Addr} {ts : List Ti} {rss : List (List Row)} (h : Wl H w ps rls ts rss) : ∀ b ∈ w :: (ps ++ rls), ∃ xs, H b = some (.lst xs) := by
  intro b m
  rcases List.mem_cons.mp m with e | m
  · exact ⟨_, e ▸ h.hw⟩
  · rcases List.mem_append.mp m with m | m
    · obtain ⟨i, e⟩ := List.mem_iff_getElem?.mp m
      have lt := (List.getElem?_eq_some_iff.mp e).1
      obtain ⟨p, rl, t, rs, e1, _, _, _, sm, vs, a, _⟩ := h.at (i := i) (by rw [← h.lp]; exact lt)
      rw [e] at e1
      cases e1
      exact ⟨_, a⟩
    · obtain ⟨i, e⟩ := List.mem_iff_getElem?.mp m
      have lt := (List.getElem?_eq_some_iff.mp e).1
      obtain ⟨p, rl, t, rs, _, e1, _, _, sm, vs, _, _, a, _⟩ := h.at (i := i) (by rw [← h.lr]; exact lt)
      rw [e] at e1
      cases e1
      exact ⟨_, a⟩
/-- one more table, without rows -/
theorem Wl.snoc {H H' : Hp} {w p rl sm : Addr} {ps rls : List Addr} {ts : List Ti} {rss : List (List Row)} {t : Ti} (h : Wl H w ps rls ts rss) (k : ∀ b ∈ ps ++ rls, ∀ o, H b = some o → H' b = some o) (fz : Fz H H') (hw : H' w = some (.lst ((ps ++ [p]).map V.ref)))
    (hp : H' p = some (.lst [.ref sm, .ref rl])) (ha : ArgT H' sm t) (hr : H' rl = some (.lst [])) (n1 : p ∉ w :: (ps ++ rls)) (n2 : rl ∉ w :: (ps ++ rls)) (n3 : p ≠ rl) : Wl H' w (ps ++ [p]) (rls ++ [rl]) (ts ++ [t]) (rss ++ [[]]) := by
  refine ⟨hw, by rw [List.length_append, List.length_append, h.lp]; rfl, by rw [List.length_append, List.length_append, h.lr]; rfl, by rw [List.length_append, List.length_append, h.ls]; rfl, ?_, ?_⟩
  · intro i p' rl' t' rs' e1 e2 e3 e4
    by_cases lt : i < ts.length
    · rw [List.getElem?_append_left (by rw [h.lp]; exact lt)] at e1
      rw [List.getElem?_append_left (by rw [h.lr]; exact lt)] at e2
      rw [List.getElem?_append_left lt] at e3
      rw [List.getElem?_append_left (by rw [h.ls]; exact lt)] at e4
      exact (h.pr i p' rl' t' rs' e1 e2 e3 e4).keep (fun o e => k p' (List.mem_append_left _ (List.mem_of_getElem? e1)) o e) (fun o e => k rl' (List.mem_append_right _ (List.mem_of_getElem? e2)) o e) fz
    · have l3 := (List.getElem?_eq_some_iff.mp e3).1
      rw [List.length_append] at l3
      have ei : i = ts.length := by
        have : ([t] : List Ti).length = 1 := rfl
        omega
      subst ei
      rw [List.getElem?_append_right (by rw [h.lp]; exact Nat.le_refl _), h.lp, Nat.sub_self] at e1
      rw [List.getElem?_append_right (by rw [h.lr]; exact Nat.le_refl _), h.lr, Nat.sub_self] at e2
      rw [List.getElem?_append_right (Nat.le_refl _), Nat.sub_self] at e3
      rw [List.getElem?_append_right (by rw [h.ls]; exact Nat.le_refl _), h.ls, Nat.sub_self] at e4
      obtain rfl := Option.some.inj e1
      obtain rfl := Option.some.inj e2
      obtain rfl := Option.some.inj e3
      obtain rfl := Option.some.inj e4
      exact ⟨sm, [], hp, ha, hr, .nil⟩
  · have nd := h.nd
    have pm : (w :: ((ps ++ [p]) ++ (rls ++ [rl]))).Perm (p :: rl :: (w :: (ps ++ rls))) := by
      have a1 : ((ps ++ [p]) ++ (rls ++ [rl])).Perm (p :: (ps ++ (rls ++ [rl]))) := by
        rw [List.append_assoc]
        exact List.perm_middle
      have a2 : (ps ++ (rls ++ [rl])).Perm (rl :: (ps ++ rls)) := by
        rw [← List.append_assoc]
        exact List.perm_append_singleton _ _
      have a3 := (a1.trans (a2.cons p)).cons w
      exact a3.trans ((List.Perm.swap _ _ _).trans ((List.Perm.swap _ _ _).cons p))
    rw [pm.nodup_iff, List.nodup_cons, List.nodup_cons]
    refine ⟨fun m => ?_, n2, nd⟩
    rcases List.mem_cons.mp m with e | m
    · exact n3 e
    · exact n1 m
def namesOf : List (List Str) := [["t", "s", "u"], ["row", "table", "names"], ["a", "ab", "abcdefgh"], ["z", "key", "b"]]
theorem namesOf_ok : ∀ ns ∈ namesOf, ns.length = 3 ∧ ns.Nodup ∧ ns.all nmS = true := by
  intro ns m
  unfold namesOf at m
  simp only [List.mem_cons, List.not_mem_nil, or_false] at m
  rcases m with e | e | e | e <;> subst e <;> exact ⟨rfl, by decide +kernel, by decide +kernel⟩
/-- the tables of a world -/
structure Wn (ts : List Ti) : Prop where
  nd : (ts.map Ti.nm).Nodup
  ok : ∀ t ∈ ts, TiOk t
  one : 1 ≤ ts.length
  few : ts.length ≤ 3
def spWorld : Sp := fun vs H Q _ => ∃ (s l : Addr) (ms : List Int) (z b : Int), vs = [.ref s] ∧ Src H s l ms z b ∧ 0 ≤ b ∧ b < 700000 ∧
  ∀ (H' : Hp) (ms' : List Int) (b' : Int) (w : Addr) (ps rls : List Addr) (ts : List Ti), But s l H H' → Src H' s l ms' z b' → b ≤ b' → b' ≤ b + 100 → Wl H' w ps rls ts (ts.map fun _ => []) → (∀ c ∈ w :: (ps ++ rls), Off s l c ∧ H c = none) → Wn ts → Q (.ref w) H'
section
variable {P : Program} {w : World} {K : PySem.W.Frag} {mg : Str → Option Value} {base : Heap} {fD fP fA : Addr}
theorem scWorld : FnScope ["_law_source_here", "_law_names", "_law_found", "_law_k"] ["_law_source_here"] (defScope sWorld) := ⟨rfl, rfl, rfl, by decide +kernel, rfl, by decide +kernel, by decide +kernel⟩
theorem ok_world {f : Addr} {fd fdD fdP fdA : FuncData} (F : Fun K "_law_world" "_law_world" sWorld f fd) (T : TxtL K mg fD fP) (GD : FnOk P w K mg base CX0 1 fD fdD ["_law_source_here", "_law_many"] spDraw) (bD : Binds K fdD ["_law_source_here", "_law_many"] [])
    (GP : FnOk P w K mg base CX0 2 fP fdP ["_law_source_here", "_law_items"] (spPick K)) (bP : Binds K fdP ["_law_source_here", "_law_items"] [])
    (cA : Calls K mg "_law_arguments" fA) (GA : FnOk P w K mg base CX0 4 fA fdA ["_law_source_here", "_law_title"] spArgs) (bA : Binds K fdA ["_law_source_here", "_law_title"] []) : FnOk P w K mg base CX0 5 f fd ["_law_source_here"] spWorld := by
  refine F.ok scWorld (fun vs H Q E h => ?_) (fun cdv A outer s H vs Q E hr h => ?_)
  · obtain ⟨s, l, ms, z, b, rfl, _⟩ := h
    rfl
  · obtain ⟨a, l, ms, z, b, rfl, hs, b0, b1, k⟩ := h
    have hr1 : Room 1 _ := hr.mono (by decide)
    have hr2 : Room 2 _ := hr.mono (by decide)
    refine ⟨_, pss_cons (ps_set (i := 1) scWorld.nd rfl (Or.inl rfl) (pe_call GP hr2 rfl T.gP T.kP bP .nil pass0 (pa_cons (pv 0) (pa_cons (pe_lst
        (pa_cons (pe_lst (pa_cons pe_str (pa_cons pe_str (pa_cons pe_str pa_nil)))) (pa_cons (pe_lst (pa_cons pe_str (pa_cons pe_str (pa_cons pe_str pa_nil)))) (pa_cons (pe_lst (pa_cons pe_str (pa_cons pe_str (pa_cons pe_str pa_nil)))) (pa_cons (pe_lst (pa_cons pe_str (pa_cons pe_str (pa_cons pe_str pa_nil)))) pa_nil))))) pa_nil))))
      (pss_cons (ps_set (i := 2) scWorld.nd rfl (Or.inl rfl) (pe_lst pa_nil))
      (pss_cons (ps_for PassesOwn.never rfl (pi_range1 rfl T.range (pa_cons (pe_op op_add pe_int (pe_call GD hr1 rfl T.gD T.kD bD .nil pass0 (pa_cons (pv 0) (pa_cons pe_int pa_nil)))) pa_nil)) (pg_name (i := 3) scWorld.nd rfl (Or.inl rfl))
        (pss_one (ps_expr (pe_bm PySem.F.plainAttrs_list PySem.F.slot_list_append PySem.F.type_list_append mt_append (pv 2)
          (pa_cons (pe_lst (pa_cons (pe_call GA hr rfl cA.g cA.k bA .nil pass0 (pa_cons (pv 0) (pa_cons (pe_ix ix_list (pv 1) (pv 3) (fun _ _ => rfl)) pa_nil))) (pa_cons (pe_lst pa_nil) pa_nil))) pa_nil)))))
      (pss_one (ps_ret (pv 2))))), ?_⟩
    have big : sizeLine > 1000 := by decide
    refine ⟨_, rfl, by show 3 ≤ sizeLine; omega, fun q1 h1 => ⟨by show 3 ≤ sizeLine; omega, fun q2 h2 => ⟨by show 3 ≤ sizeLine; omega, fun q3 h3 => ⟨by show 3 ≤ sizeLine; omega, fun q4 h4 => ⟨by show 4 ≤ sizeLine; omega, fun q5 h5 => ?_⟩⟩⟩⟩⟩
    obtain ⟨n1, n2, n3, n4, en⟩ : ∃ n1 n2 n3 n4 : List Str, namesOf = [n1, n2, n3, n4] := ⟨_, _, _, _, rfl⟩
    have c1 := same_upd (o := .lst [V.str "t", .str "s", .str "u"]) h1
    have c2 := same_upd (o := .lst [V.str "row", .str "table", .str "names"]) h2
    have c3 := same_upd (o := .lst [V.str "a", .str "ab", .str "abcdefgh"]) h3
    have c4 := same_upd (o := .lst [V.str "z", .str "key", .str "b"]) h4
    have c5 := same_upd (o := .lst [V.ref q1, .ref q2, .ref q3, .ref q4]) h5
    have f1 : Off a l q1 := hs.free h1
    have f2 : Off a l q2 := (hs.but c1).free h2
    have f3 : Off a l q3 := (hs.but (c1.trans c2)).free h3
    have f4 : Off a l q4 := (hs.but ((c1.trans c2).trans c3)).free h4
    have f5 : Off a l q5 := (hs.but (((c1.trans c2).trans c3).trans c4)).free h5
    have all : ∀ v ∈ [V.ref q1, .ref q2, .ref q3, .ref q4], ∃ q nl, v = V.ref q ∧ Off a l q ∧ (upd (upd (upd (upd (upd H q1 (.lst [V.str "t", .str "s", .str "u"])) q2 (.lst [V.str "row", .str "table", .str "names"])) q3 (.lst [V.str "a", .str "ab", .str "abcdefgh"])) q4 (.lst [V.str "z", .str "key", .str "b"])) q5 (.lst [V.ref q1, .ref q2, .ref q3, .ref q4])) q = some (.lst (nl.map V.str)) ∧ nl ∈ namesOf := by
      intro v m
      simp only [List.mem_cons, List.not_mem_nil, or_false] at m
      rcases m with e | e | e | e <;> subst e
      · exact ⟨q1, ["t", "s", "u"], rfl, f1, c5 _ _ (c4 _ _ (c3 _ _ (c2 _ _ upd_same))), List.mem_cons_self⟩
      · exact ⟨q2, ["row", "table", "names"], rfl, f2, c5 _ _ (c4 _ _ (c3 _ _ upd_same)), List.mem_cons_of_mem _ List.mem_cons_self⟩
      · exact ⟨q3, ["a", "ab", "abcdefgh"], rfl, f3, c5 _ _ (c4 _ _ upd_same), List.mem_cons_of_mem _ (List.mem_cons_of_mem _ List.mem_cons_self)⟩
      · exact ⟨q4, ["z", "key", "b"], rfl, f4, c5 _ _ upd_same, List.mem_cons_of_mem _ (List.mem_cons_of_mem _ (List.mem_cons_of_mem _ List.mem_cons_self))⟩
    have s5 : Same H (upd (upd (upd (upd (upd H q1 (.lst [V.str "t", .str "s", .str "u"])) q2 (.lst [V.str "row", .str "table", .str "names"])) q3 (.lst [V.str "a", .str "ab", .str "abcdefgh"])) q4 (.lst [V.str "z", .str "key", .str "b"])) q5 (.lst [V.ref q1, .ref q2, .ref q3, .ref q4])) := (((c1.trans c2).trans c3).trans c4).trans c5
    have e5 : (upd (upd (upd (upd (upd H q1 (.lst [V.str "t", .str "s", .str "u"])) q2 (.lst [V.str "row", .str "table", .str "names"])) q3 (.lst [V.str "a", .str "ab", .str "abcdefgh"])) q4 (.lst [V.str "z", .str "key", .str "b"])) q5 (.lst [V.ref q1, .ref q2, .ref q3, .ref q4])) q5 = some (.lst [V.ref q1, .ref q2, .ref q3, .ref q4]) := upd_same
    show spPick K [.ref a, .ref q5] (upd (upd (upd (upd (upd H q1 (.lst [V.str "t", .str "s", .str "u"])) q2 (.lst [V.str "row", .str "table", .str "names"])) q3 (.lst [V.str "a", .str "ab", .str "abcdefgh"])) q4 (.lst [V.str "z", .str "key", .str "b"])) q5 (.lst [V.ref q1, .ref q2, .ref q3, .ref q4])) _ E0
    generalize (upd (upd (upd (upd (upd H q1 (.lst [V.str "t", .str "s", .str "u"])) q2 (.lst [V.str "row", .str "table", .str "names"])) q3 (.lst [V.str "a", .str "ab", .str "abcdefgh"])) q4 (.lst [V.str "z", .str "key", .str "b"])) q5 (.lst [V.ref q1, .ref q2, .ref q3, .ref q4])) = H5 at all s5 e5 ⊢
    refine ⟨a, l, .ref q5, ms, z, b, rfl, hs.but s5, by omega, by omega, .inl ⟨q5, _, rfl, fun H' kk => SqL.of (kk _ _ f5.1 f5.2 e5), by show 0 < 4; decide, by show 4 ≤ 1000; decide, fun H6 ms6 v k6 hs6 hv => ?_⟩⟩
    obtain ⟨q, nl, rfl, fq, eq, mem⟩ := all v hv
    obtain ⟨l3, nd, nm⟩ := namesOf_ok nl mem
    have k06 : But a l H H6 := (But.of_same s5).trans k6
    have eq6 := k6 _ _ fq.1 fq.2 eq
    refine ⟨by show 0 ≤ sizeLine; omega, fun W hW => ?_⟩
    have fW : Off a l W := hs6.free hW
    have hWH := k06.back hs6 hW
    have Wq : W ≠ q := fun e => by
      rw [e, eq6] at hW
      cases hW
    refine ⟨_, rfl, a, l, ms6, z, b + 1, 3, rfl, hs6.put fW, by decide, by decide, by omega, by omega, fun H7 ms7 r k7 hs7 p7 q7 => ?_⟩
    have eW7 : H7 W = some (.lst []) := k7 _ _ fW.1 fW.2 upd_same
    have eq7 : H7 q = some (.lst (nl.map V.str)) := k7 _ _ fq.1 fq.2 (by rw [upd_ne Wq.symm]; exact eq6)
    have k07 : But a l H H7 := (k06.put hWH).trans k7
    refine ⟨_, _, rfl, rfl, 1 + r, rfl, by omega, by omega, for_range (lo := 0) (n := (1 + r).toNat) (fun i σ H' => ∃ (ms' : List Int) (b' : Int) (v3 : Option V) (ps rls : List Addr) (ts : List Ti), σ = [some (.ref a), some (.ref q), some (.ref W), v3] ∧ But a l H H' ∧ Src H' a l ms' z b' ∧ b ≤ b' ∧ b' ≤ b + 2 + 20 * (i : Int) ∧
      Wl H' W ps rls ts (ts.map fun _ => []) ∧ (∀ c ∈ W :: (ps ++ rls), Off a l c ∧ H c = none) ∧ ts.map Ti.nm = nl.take i ∧ (∀ t ∈ ts, TiOk t) ∧ H' q = some (.lst (nl.map V.str))) ?_ ?_ ?_⟩
    · refine ⟨ms7, _, none, [], [], [], rfl, k07, hs7, by omega, by omega, ⟨eW7, rfl, rfl, rfl, (fun i p rl t rs e => nomatch e), by simp⟩, fun c m => ?_, rfl, (fun t m => nomatch m), eq7⟩
      rw [List.mem_singleton.mp m]
      exact ⟨fW, hWH⟩
    · rintro i σ H8 hi ⟨ms8, b8, v3, ps, rls, ts, rfl, k8, hs8, c81, c82, wl, off, nmt, okt, eq8⟩
      have i3 : i < 3 := by omega
      have il : i < nl.length := by omega
      have lts : ts.length = i := by
        have := congrArg List.length nmt
        rw [List.length_map, List.length_take] at this
        omega
      refine ⟨_, rfl, .inl ⟨rfl, _, SqL.of wl.hw⟩, _, rfl, _, rfl, _, rfl, q, _, _, .str nl[i], rfl, rfl, SqL.of eq8, ?_, a, l, ms8, z, b8, nl[i], rfl, hs8, by omega, by omega, List.all_eq_true.mp nm _ (List.getElem_mem il), fun H9 ms9 b9 sm t k9 hs9 c91 c92 hsm at9 tok tnm => ?_⟩
      · rw [Int.zero_add]
        exact atI_nat (by rw [List.getElem?_map, List.getElem?_eq_getElem il]; rfl)
      have k09 := k8.trans k9
      refine ⟨by show 0 ≤ sizeLine; omega, fun rl hrl => ⟨by show 2 ≤ sizeLine; omega, fun p hp => ?_⟩⟩
      have frl : Off a l rl := hs9.free hrl
      have hrlH := k09.back hs9 hrl
      have s10 := same_upd (o := .lst []) hrl
      have fp : Off a l p := (hs9.but s10).free hp
      have hp9 : H9 p = none := s10.free hp
      have hpH := k09.back hs9 hp9
      have prl : p ≠ rl := fun e => by
        rw [e, upd_same] at hp
        cases hp
      have s11 := same_upd (o := .lst [V.ref sm, .ref rl]) hp
      have kp9 : ∀ c ∈ W :: (ps ++ rls), ∀ o, H8 c = some o → H9 c = some o := fun c m o e => k9 _ _ (off c m).1.1 (off c m).1.2 e
      have wl9 := wl.keep kp9 (k9.fz hs8)
      have np : p ∉ W :: (ps ++ rls) := fun m => by
        obtain ⟨xs, e⟩ := wl9.there p m
        rw [hp9] at e
        cases e
      have nrl : rl ∉ W :: (ps ++ rls) := fun m => by
        obtain ⟨xs, e⟩ := wl9.there rl m
        rw [hrl] at e
        cases e
      have Wp : W ≠ p := fun e => np (e ▸ List.mem_cons_self)
      have Wrl : W ≠ rl := fun e => nrl (e ▸ List.mem_cons_self)
      have s9 := s10.trans s11
      refine ⟨W, _, _, rfl, rfl, s9 _ _ wl9.hw, by rw [List.length_map, wl.lp]; omega, ?_⟩
      have k12 : But a l H (upd (upd (upd H9 rl (.lst [])) p (.lst [V.ref sm, .ref rl])) W (.lst (ps.map V.ref ++ [V.ref p]))) := ((k09.put hrlH).put hpH).put hWH
      have hs12 : Src (upd (upd (upd H9 rl (.lst [])) p (.lst [V.ref sm, .ref rl])) W (.lst (ps.map V.ref ++ [V.ref p]))) a l ms9 z b9 := ((hs9.put frl).put fp).put fW
      have fz12 : Fz H9 (upd (upd (upd H9 rl (.lst [])) p (.lst [V.ref sm, .ref rl])) W (.lst (ps.map V.ref ++ [V.ref p]))) := fun c o xs e => by
        rw [upd_ne fun z => by rw [z, wl9.hw] at e; cases e]
        exact s9 _ _ e
      have nW : ∀ c ∈ ps ++ rls, c ≠ W := fun c m e => (List.nodup_cons.mp wl.nd).1 (e ▸ m)
      refine ⟨ms9, b9, _, ps ++ [p], rls ++ [rl], ts ++ [t], rfl, k12, hs12, by omega, by omega, ?_, ?_, ?_, ?_, ?_⟩
      · have w' := Wl.snoc (p := p) (rl := rl) (sm := sm) (t := t) wl9 (H' := upd (upd (upd H9 rl (.lst [])) p (.lst [V.ref sm, .ref rl])) W (.lst (ps.map V.ref ++ [V.ref p]))) (fun c m o e => by
          rw [upd_ne (nW c m)]
          exact s9 _ _ e) fz12 (by rw [upd_same, List.map_append]; rfl) (by rw [upd_ne Wp.symm, upd_same]) (at9.fz fz12) (by rw [upd_ne Wrl.symm]; exact s11 _ _ upd_same) np nrl prl
        rw [List.map_append]
        exact w'
      · intro c m
        rcases List.mem_cons.mp m with e | m
        · rw [e]
          exact ⟨fW, hWH⟩
        · rcases List.mem_append.mp m with m | m
          · rcases List.mem_append.mp m with m | m
            · exact off c (List.mem_cons_of_mem _ (List.mem_append_left _ m))
            · rw [List.mem_singleton.mp m]
              exact ⟨fp, hpH⟩
          · rcases List.mem_append.mp m with m | m
            · exact off c (List.mem_cons_of_mem _ (List.mem_append_right _ m))
            · rw [List.mem_singleton.mp m]
              exact ⟨frl, hrlH⟩
      · rw [List.map_append, nmt, List.take_add_one, List.getElem?_eq_getElem il]
        show _ ++ [t.nm] = _
        rw [tnm]
        rfl
      · intro t' m
        rcases List.mem_append.mp m with m | m
        · exact okt t' m
        · rw [List.mem_singleton.mp m]
          exact tok
      · have q9 : H9 q = some (.lst (nl.map V.str)) := k9 _ _ fq.1 fq.2 eq8
        rw [upd_ne Wq.symm]
        exact s9 _ _ q9
    · rintro σ H8 ⟨ms8, b8, v3, ps, rls, ts, rfl, k8, hs8, c81, c82, wl, off, nmt, okt, eq8⟩
      have lts : ts.length = (1 + r).toNat := by
        have := congrArg List.length nmt
        rw [List.length_map, List.length_take] at this
        omega
      exact ⟨_, rfl, k H8 ms8 b8 W ps rls ts k8 hs8 c81 (by omega) wl off ⟨by rw [nmt]; exact nd.sublist (List.take_sublist _ _), okt, by omega, by omega⟩⟩
end
end Vm
/-! the law: its tables, its store -/
namespace Vm
open PySem L2 StX
abbrev sMadeT : Stmt := top 47
abbrev sStoreL : Stmt := top 48
/-- a call that raises nothing there -/
theorem passF {X : Cx} : Passes (L2.CX X.prog X.w) X (fun _ _ _ => False) := fun _ _ _ _ _ _ _ ⟨_, _, _, _, _, _, _, _, _, _, _, _, he⟩ => he.elim
theorem names_dt {K : PySem.W.Frag} {H : Hp} : ∀ {ss : List Str}, ss.all nmS = true → DtAll K H (ss.map V.str) (ss.map Tr.str) 0 []
  | [], _ => .nil
  | x :: r, h => by
    rw [List.all_cons, Bool.and_eq_true] at h
    exact .cons (bs := []) (.str (Nat.le_trans (nm_text h.1).1 (by decide)) (Nat.le_trans (nm_text h.1).2 (by decide))) (names_dt h.2)
theorem TupS.dt {K : PySem.W.Frag} {H : Hp} {c : Addr} {ss : List Str} (h : TupS H c ss) (n : ss.all nmS = true) : Dt K H (.ref c) (.tup (ss.map Tr.str)) 1 [c] := by
  obtain ⟨o, e, d⟩ := h
  exact .tup e d (names_dt n) List.not_mem_nil
theorem sameS_self : ∀ ss : List Str, sameS (ss.map Tr.str) ss = true
  | [] => rfl
  | x :: r => by
    show ((x == x) && sameS (r.map Tr.str) r) = true
    rw [beq_self_eq_true, sameS_self r]
    rfl
theorem ti_valid {t : Ti} (h : TiOk t) : valid (.str t.nm) (.tup (t.ss.map Tr.str)) (.tup (t.zs.map Tr.str)) (.tup (t.ks.map Tr.str)) = true := by
  obtain ⟨g, kf⟩ := h
  have an : ∀ ss : List Str, ss.length ≤ 2 → ss.all nmS = true → areNms (.tup (ss.map Tr.str)) = true := fun ss l n => by
    show (decide ((ss.map Tr.str).length ≤ 2) && (ss.map Tr.str).all isNm) = true
    rw [List.length_map, decide_eq_true l, Bool.true_and, List.all_map]
    exact n
  unfold valid areCols
  rw [strsOf_map, strsOf_map]
  have c1 : isNm (.str t.nm) = true := g.n1
  have c2 : colsOk (t.ss ++ t.zs) = true := by
    unfold colsOk
    rw [decide_eq_true g.ne, decide_eq_true g.nd]
    rfl
  have c3 : isKey (.tup (t.ks.map Tr.str)) (t.ss ++ t.zs) = true := by
    show sameS (t.ks.map Tr.str) ((t.ss ++ t.zs).filter fun z => (t.ks.map Tr.str).any (isS z)) = true
    have f : (fun z => (t.ks.map Tr.str).any (isS z)) = fun z => t.ks.any (· == z) := by
      funext z
      rw [List.any_map]
      rfl
    rw [f]
    have kf' : t.ks = (t.ss ++ t.zs).filter fun z => t.ks.any (· == z) := kf
    rw [← kf']
    exact sameS_self _
  rw [c1, an _ g.l2 g.n2, an _ g.l3 g.n3, c2, c3]
  rfl
theorem two_of {α : Type} : ∀ {xs : List α}, xs.length = 2 → ∃ a b, xs = [a, b]
  | [a, b], _ => ⟨a, b, rfl⟩
theorem three_of {α : Type} : ∀ {xs : List α}, xs.length = 3 → ∃ a b c, xs = [a, b, c]
  | [a, b, c], _ => ⟨a, b, c, rfl⟩
def spMadeT (K : PySem.W.Frag) (CT : Addr) : Sp := fun vs H Q _ => ∃ (w : Addr) (ps rls : List Addr) (ts : List Ti) (rss : List (List Row)), vs = [.ref w] ∧ Wl H w ps rls ts rss ∧ Wn ts ∧
  ∀ (H' : Hp) (D : Addr) (ws : List V), Same H H' → H D = none → H' D = some (.lst ws) → TbsAt K H' CT ws ts → Q (.ref D) H'
section
variable {P : Program} {w : World} {K : PySem.W.Frag} {mg : Str → Option Value} {base : Heap} {fNm fNms fCols fKey C CT CI fI fM fSI fTO fRO fIC fIP : Addr}
theorem scMadeT : FnScope ["_law_world_here", "_law_some", "_law_rows"] ["_law_world_here"] (defScope sMadeT) := ⟨rfl, rfl, rfl, by decide +kernel, rfl, by decide +kernel, by decide +kernel⟩
theorem ok_madet {f : Addr} {fd fdI : FuncData} (F : Fun K "_law_made_tables" "_law_made_tables" sMadeT f fd) (U : TxtT K mg CT CI fCols fKey) (M : Mk K CT fI)
    (GI : FnOk P w K mg base (L2.CX P w) 4 fI fdI ["self", "name", "names", "numbers", "key"] (spInit K CT CI)) (bI : Binds K fdI ["self", "name", "names", "numbers", "key"] []) : FnOk P w K mg base CX0 6 f fd ["_law_world_here"] (spMadeT K CT) := by
  refine F.ok scMadeT (fun vs H Q E h => ?_) (fun cdv A outer s H vs Q E hr h => ?_)
  · obtain ⟨w, ps, rls, ts, rss, rfl, _⟩ := h
    rfl
  · obtain ⟨w, ps, rls, ts, rss, rfl, wl, wn, k⟩ := h
    refine ⟨_, pss_one (ps_ret (pe_lc (own := [("_law_some", 1), ("_law_rows", 2)]) (g := gLst K 2 (gCons (gName 1) (gCons (gName 2) gNil))) (tt := tYes)
        (te := tMake CT (spInit K CT CI) [] (fun _ _ _ => False) (tCons (tOp (rIxT K) (tVar 1) (tC (.int 0))) (tCons (tOp (rIxT K) (tVar 1) (tC (.int 1))) (tCons (tOp (rIxT K) (tVar 1) (tC (.int 2))) (tCons (tOp (rIxT K) (tVar 1) (tC (.int 3))) tNil))))) rfl scMadeT.nd (pi_list (pv 0))
          (blkOk_by (N := ["_law_world_here", "_law_some", "_law_rows"]) (sc := defScope sMadeT) (by decide +kernel))
          (fun _ _ _ _ _ => by exact (pg_lst rfl (by exact (pgs_cons (pg_name (i := 1) scMadeT.nd rfl (Or.inl rfl)) (by exact (pgs_cons (pg_name (i := 2) scMadeT.nd rfl (Or.inl rfl)) pgs_nil)))))) (fun _ _ _ _ _ => pts_nil)
          (fun _ _ _ _ _ => by exact (pe_make M GI (hr.mono (by decide)) rfl U.gC bI .nil passF (pa_cons (pe_ix ix_tup (pv 1) pe_int (fun _ _ => rfl)) (pa_cons (pe_ix ix_tup (pv 1) pe_int (fun _ _ => rfl)) (pa_cons (pe_ix ix_tup (pv 1) pe_int (fun _ _ => rfl)) (pa_cons (pe_ix ix_tup (pv 1) pe_int (fun _ _ => rfl)) pa_nil)))))))), ?_⟩
    have big : sizeLine > 1000 := by decide
    refine ⟨_, rfl, w, rfl, ⟨_, SqL.of wl.hw⟩, fun D hD => ?_⟩
    refine lc_list (K := K) (a := w) (xs := ps.map V.ref) (fun i H' => Same H H' ∧ ∃ ws, H' D = some (.lst ws) ∧ TbsAt K H' CT ws (ts.take i) ∧ ws.length = i) ⟨same_upd hD, [], upd_same, .nil, rfl⟩ (fun i H' _ z => SqL.of (z.1 _ _ wl.hw)) ?_ ?_
    · rintro i y H2 hi ⟨s2, ws, e2, tb2, lw⟩
      have lt : i < ts.length := by
        have := (List.getElem?_eq_some_iff.mp hi).1
        rw [List.length_map, wl.lp] at this
        exact this
      obtain ⟨p, rl, t, rs, e1, _, e3, _, sm, vs, h0, ⟨o, a1, a2, a3, hs, hod, T1, T2, T3⟩, _, _⟩ := wl.at lt
      rw [List.getElem?_map, e1] at hi
      obtain rfl := Option.some.inj hi
      have tok := wn.ok t (List.mem_of_getElem? e3)
      have few := wn.few
      refine ⟨p, [.ref sm, .ref rl], rfl, SqL.of (s2 _ _ h0), rfl, _, _, rfl, _, _, rfl, rfl, ?_⟩
      refine ⟨rfl, ?_⟩
      dsimp only [tYes]
      rw [if_pos rfl]
      have hs2 : SqT K H2 sm [.str t.nm, .ref a1, .ref a2, .ref a3] := .inl (.inr ⟨o, s2 _ _ hs⟩)
      refine ⟨_, rfl, sm, _, 0, .str t.nm, rfl, rfl, hs2, rfl, _, rfl, sm, _, 1, .ref a1, rfl, rfl, hs2, rfl, _, rfl, sm, _, 2, .ref a2, rfl, rfl, hs2, rfl, _, rfl, sm, _, 3, .ref a3, rfl, rfl, hs2, rfl, fun x dx nx ndx ne => ?_⟩
      have sx : Same H2 (upd (upd H2 dx (.own x)) x (.ins CT dx [])) := fun b u e => by
        rw [upd_ne (ne_of_none e nx), upd_ne (ne_of_none e ndx)]
        exact e
      have s0x := s2.trans sx
      have dnm : Dt K (upd (upd H2 dx (.own x)) x (.ins CT dx [])) (.str t.nm) (.str t.nm) 0 [] := .str (Nat.le_trans (nm_text tok.g.n1).1 (by decide)) (Nat.le_trans (nm_text tok.g.n1).2 (by decide))
      refine ⟨x, dx, .str t.nm, .ref a1, .ref a2, .ref a3, _, _, _, _, _, _, _, _, _, _, _, _, rfl, upd_same, dnm, (T1.same s0x).dt tok.g.n2, (T2.same s0x).dt tok.g.n3, (T3.same s0x).dt tok.g.n4, fun _ H3 k3 e3' => ?_, fun z => by rw [ti_valid tok] at z; cases z⟩
      have k23 : Same H2 H3 := fun b u e => k3 _ _ (ne_of_none e nx) (sx _ _ e)
      have k03 := s2.trans k23
      refine ⟨rfl, ws, k23 _ _ e2, by omega, fun b u e => ?_, ws ++ [.ref x], upd_same, ?_, by rw [List.length_append, lw]; rfl⟩
      · rw [upd_ne (ne_of_none e hD)]
        exact k03 _ _ e
      · have nl : NL H3 (upd H3 D (.lst (ws ++ [.ref x]))) := fun b u n e => by
          rw [upd_ne fun z => by rw [z, k23 _ _ e2] at e; exact n _ (Option.some.inj e).symm]
          exact e
        rw [List.take_add_one, e3]
        refine each_append ((tbs_same tb2 k23).mono fun _ _ z => z.nl nl) (.cons ?_ .nil)
        refine TbAt.nl ⟨x, rfl, ⟨dx, a1, a2, a3, e3', ?_, ?_, ?_⟩, tok.g.l2, tok.g.l3, tok.g.l4⟩ nl
        · exact .inr (T1.same k03)
        · exact .inr (T2.same k03)
        · exact .inr (T3.same k03)
    · rintro H2 ⟨s2, ws, e2, tb2, lw⟩
      rw [List.length_map, wl.lp, List.take_length] at tb2
      exact k H2 D ws s2 hD e2 tb2
theorem scStoreL : FnScope ["_law_world_here", "_law_tables"] ["_law_world_here"] (defScope sStoreL) := ⟨rfl, rfl, rfl, by decide +kernel, rfl, by decide +kernel, by decide +kernel⟩
def spStoreL (K : PySem.W.Frag) (C CT : Addr) : Sp := fun vs H Q _ => ∃ (w : Addr) (ps rls : List Addr) (ts : List Ti) (rss : List (List Row)), vs = [.ref w] ∧ Wl H w ps rls ts rss ∧ Wn ts ∧
  ∀ (H' : Hp) (st dx tp rd : Addr) (ws : List V) (qs : List Addr), Same H H' → H st = none → H rd = none → StAt K H' C CT st dx tp rd ws ts qs (ts.map fun _ => []) → Q (.ref st) H'
theorem ok_storel {f : Addr} {fd fdM : FuncData} (F : Fun K "_law_store" "_law_store" sStoreL f fd) (len : mg "len" = none) (S : TxtS K mg C fTO fRO fIC fIP) (MS : Mk K C fSI)
    (cM : Calls K mg "_law_made_tables" fM) (GM : FnOk P w K mg base CX0 6 fM fdM ["_law_world_here"] (spMadeT K CT)) (bM : Binds K fdM ["_law_world_here"] [])
    (GI : FnR P w K mg base (L2.CX P w) 2 fSI (fun vs H Q E => ∃ ws rest, vs = ws ++ rest ∧ ws.length = (["self"] : List Str).length ∧ rest.length ≤ sizeLine ∧ ∀ p, H p = Option.none → spSInit K C CT (ws ++ [V.ref p]) (upd H p (.tup rest)) Q E)) :
    FnOk P w K mg base CX0 7 f fd ["_law_world_here"] (spStoreL K C CT) := by
  refine F.ok scStoreL (fun vs H Q E h => ?_) (fun cdv A outer s H vs Q E hr h => ?_)
  · obtain ⟨w, ps, rls, ts, rss, rfl, _⟩ := h
    rfl
  · obtain ⟨w, ps, rls, ts, rss, rfl, wl, wn, k⟩ := h
    have hr3 : Room 3 _ := hr.mono (by decide)
    have ix : ∀ {X : Cx} {p pos : Pos}, True := trivial
    refine ⟨_, pss_cons (ps_set (i := 1) scStoreL.nd rfl (Or.inl rfl) (pe_call GM hr rfl cM.g cM.k bM .nil pass0 (pa_cons (pv 0) pa_nil)))
      (pss_cons (ps_if (pt_cmpR op_eq (pe_callB call_len_seq (by rfl) len (by decide +kernel) (pa_cons (pv 1) pa_nil)) pe_int (nomark _))
        (pss_one (ps_ret (pe_makeR MS GI hr3 (by rfl) S.gC passF (pa_cons (pe_ix ix_list (pv 1) pe_int (fun _ _ => rfl)) pa_nil)))) pss_nil)
      (pss_cons (ps_if (pt_cmpR op_eq (pe_callB call_len_seq (by rfl) len (by decide +kernel) (pa_cons (pv 1) pa_nil)) pe_int (nomark _))
        (pss_one (ps_ret (pe_makeR MS GI hr3 (by rfl) S.gC passF (pa_cons (pe_ix ix_list (pv 1) pe_int (fun _ _ => rfl)) (pa_cons (pe_ix ix_list (pv 1) pe_int (fun _ _ => rfl)) pa_nil))))) pss_nil)
      (pss_one (ps_ret (pe_makeR MS GI hr3 (by rfl) S.gC passF (pa_cons (pe_ix ix_list (pv 1) pe_int (fun _ _ => rfl)) (pa_cons (pe_ix ix_list (pv 1) pe_int (fun _ _ => rfl)) (pa_cons (pe_ix ix_list (pv 1) pe_int (fun _ _ => rfl)) pa_nil)))))))), ?_⟩
    have big : sizeLine > 1000 := by decide
    refine ⟨_, rfl, w, ps, rls, ts, rss, rfl, wl, wn, fun H1 D ws s1 hD eD tb => ?_⟩
    have lw : ws.length = ts.length := tb.length
    have one := wn.one
    have few := wn.few
    have made : ∀ {n : Nat} (us : List V), us = ws → ∀ x dx, H1 x = none → H1 dx = none → dx ≠ x → ∃ ws' rest, V.ref x :: us = ws' ++ rest ∧ ws'.length = (["self"] : List Str).length ∧ rest.length ≤ sizeLine ∧ ∀ p, (upd (upd H1 dx (.own x)) x (.ins C dx [])) p = Option.none →
        spSInit K C CT (ws' ++ [V.ref p]) (upd (upd (upd H1 dx (.own x)) x (.ins C dx [])) p (.tup rest)) (fun v H2 => v = .non ∧ Q (.ref x) H2) (fun _ _ _ => False) := fun {n} us eu x dx nx ndx ne => by
      subst eu
      refine ⟨[.ref x], us, rfl, rfl, by omega, fun p hp => ?_⟩
      have px : x ≠ p := fun e => by
        rw [← e, upd_same] at hp
        cases hp
      have sx : Same H1 (upd (upd (upd H1 dx (.own x)) x (.ins C dx [])) p (.tup us)) := fun b u e => by
        have e2 : upd (upd H1 dx (.own x)) x (.ins C dx []) b = some u := by
          rw [upd_ne (ne_of_none e nx), upd_ne (ne_of_none e ndx)]
          exact e
        rw [upd_ne (ne_of_none e2 hp)]
        exact e2
      refine ⟨x, dx, p, us, ts, rfl, by rw [upd_ne px, upd_same], SqT.of upd_same, tbs_same tb sx, one, few, wn.nd, fun H2 rd qs kb nrd sa => ⟨rfl, ?_⟩⟩
      have s12 : Same H1 H2 := fun b u e => kb _ _ (ne_of_none e nx) (sx _ _ e)
      exact k H2 x dx p rd us qs (s1.trans s12) (s1.free nx) (s1.free (sx.free nrd)) sa
    refine ⟨_, rfl, D, ws, rfl, .inl (SqL.of eD), rfl, _, rfl, ?_⟩
    refine ite2 (fun e => ?_) (fun e => ?_)
    · have e1 := V.int.inj (of_decide_eq_true e)
      obtain ⟨a, rfl⟩ : ∃ a, ws = [a] := List.length_eq_one_iff.mp (by omega)
      exact ⟨_, rfl, D, _, ((0 : Nat) : Int), a, rfl, rfl, SqL.of eD, atI_nat rfl, made (n := 1) _ rfl⟩
    have n1 : ws.length ≠ 1 := fun z => e (decide_eq_true (by rw [z]; rfl))
    refine ⟨_, rfl, D, ws, rfl, .inl (SqL.of eD), rfl, _, rfl, ?_⟩
    refine ite2 (fun e => ?_) (fun e => ?_)
    · have e1 := V.int.inj (of_decide_eq_true e)
      obtain ⟨a, a2, rfl⟩ : ∃ a a2, ws = [a, a2] := two_of (by omega)
      exact ⟨_, rfl, D, _, ((0 : Nat) : Int), a, rfl, rfl, SqL.of eD, atI_nat rfl, _, rfl, D, _, ((1 : Nat) : Int), a2, rfl, rfl, SqL.of eD, atI_nat rfl, made (n := 1) _ rfl⟩
    have n2 : ws.length ≠ 2 := fun z => e (decide_eq_true (by rw [z]; rfl))
    obtain ⟨a, a2, a3, rfl⟩ : ∃ a a2 a3, ws = [a, a2, a3] := three_of (by omega)
    exact ⟨_, rfl, D, _, ((0 : Nat) : Int), a, rfl, rfl, SqL.of eD, atI_nat rfl, _, rfl, D, _, ((1 : Nat) : Int), a2, rfl, rfl, SqL.of eD, atI_nat rfl, _, rfl, D, _, ((2 : Nat) : Int), a3, rfl, rfl, SqL.of eD, atI_nat rfl, made (n := 1) _ rfl⟩
end
end Vm
/-! the law: a row -/
namespace Vm
open PySem L2
abbrev sRowL : Stmt := top 49
def smallC : Cell → Bool
  | .s x => nmS x
  | .i n => decide (n.natAbs < 10 ^ 40)
/-- a row that the law made -/
structure Rk (t : Ti) (r : Row) : Prop where
  ok : Row.ok t r
  sm : ∀ c ∈ r, smallC c = true
theorem cell_w {c : Cell} (h : smallC c = true) : c.t.w ≤ 100 := by
  cases c with
  | s x => exact Nat.le_trans (nm_text h).1 (by decide)
  | i n => exact (farOk (of_decide_eq_true h)).2
theorem cells_w : ∀ {r : Row}, (∀ c ∈ r, smallC c = true) → ws (r.map Cell.t) ≤ 102 * r.length
  | [], _ => Nat.zero_le _
  | c :: r, h => by
    have h1 := cells_w (r := r) fun x m => h x (List.mem_cons_of_mem _ m)
    have h2 := cell_w (h c List.mem_cons_self)
    show (c.t.w + 2) + ws (r.map Cell.t) ≤ 102 * (r.length + 1)
    omega
theorem Rk.w {t : Ti} {r : Row} (h : Rk t r) (g : t.ok) : (rowT r).w ≤ 420 := by
  have h1 := cells_w h.sm
  have h2 := h.ok.len
  have := g.l2
  have := g.l3
  show 3 + ws (r.map Cell.t) ≤ 420
  omega
theorem cells_dt {K : PySem.W.Frag} {H : Hp} : ∀ {r : Row}, (∀ c ∈ r, smallC c = true) → DtAll K H (r.map Cell.v) (r.map Cell.t) 0 []
  | [], _ => .nil
  | .s x :: r, h => .cons (bs := []) (.str (Nat.le_trans (nm_text (h _ List.mem_cons_self)).1 (by decide)) (Nat.le_trans (nm_text (h _ List.mem_cons_self)).2 (by decide))) (cells_dt fun c m => h c (List.mem_cons_of_mem _ m))
  | .i n :: r, h => .cons (bs := []) (.int (farOk (of_decide_eq_true (h _ List.mem_cons_self))).1) (cells_dt fun c m => h c (List.mem_cons_of_mem _ m))
theorem RwAt.dt {K : PySem.W.Frag} {H : Hp} {v : V} {r : Row} (h : RwAt H v r) (sm : ∀ c ∈ r, smallC c = true) : ∃ b, v = .ref b ∧ Dt K H v (rowT r) 1 [b] := by
  obtain ⟨p, o, rfl, e, d⟩ := h
  exact ⟨p, rfl, .tup e d (cells_dt sm) List.not_mem_nil⟩
def fourN : List Str := ["a", "b", "ann", "abcdefgh"]
theorem fourN_nm : fourN.all nmS = true := by decide +kernel
def fiveI : List Int := [0, 1, -1, 5, 10 ^ 12 - 1]
theorem fiveI_sm : ∀ i ∈ fiveI, i.natAbs < 10 ^ 40 := by decide +kernel
theorem row_of {t : Ti} {ns : List Str} {is : List Int} (l1 : ns.length = t.ss.length) (l2 : is.length = t.zs.length) (n1 : ns.all nmS = true) (n2 : ∀ i ∈ is, i.natAbs < 10 ^ 40) : Rk t (ns.map Cell.s ++ is.map Cell.i) := by
  refine ⟨⟨by rw [List.length_append, List.length_map, List.length_map, l1, l2], fun i c e => ?_⟩, fun c m => ?_⟩
  · by_cases lt : i < ns.length
    · rw [List.getElem?_append_left (by rw [List.length_map]; exact lt), List.getElem?_map, List.getElem?_eq_getElem lt] at e
      obtain rfl := Option.some.inj e
      rw [decide_eq_true (by omega)]
      exact List.all_eq_true.mp n1 _ (List.getElem_mem lt)
    · rw [List.getElem?_append_right (by rw [List.length_map]; omega), List.getElem?_map] at e
      cases q : is[i - (ns.map Cell.s).length]? with
      | none => rw [q] at e; cases e
      | some n =>
        rw [q] at e
        obtain rfl := Option.some.inj e
        rw [decide_eq_false (by omega)]
        rfl
  · rcases List.mem_append.mp m with m | m
    · obtain ⟨x, hx, rfl⟩ := List.mem_map.mp m
      exact List.all_eq_true.mp n1 x hx
    · obtain ⟨x, hx, rfl⟩ := List.mem_map.mp m
      exact decide_eq_true (n2 x hx)
theorem cells_v (ns : List Str) (is : List Int) : (ns.map Cell.s ++ is.map Cell.i).map Cell.v = ns.map V.str ++ is.map V.int := by
  rw [List.map_append, List.map_map, List.map_map]
  rfl
def spRowL : Sp := fun vs H Q _ => ∃ (s l sm : Addr) (ms : List Int) (z b : Int) (t : Ti), vs = [.ref s, .ref sm] ∧ Src H s l ms z b ∧ 0 ≤ b ∧ b < 800000 ∧ ArgT H sm t ∧ t.ok ∧
  ∀ (H' : Hp) (ms' : List Int) (b' : Int) (v : V) (r : Row), But s l H H' → Src H' s l ms' z b' → b ≤ b' → b' ≤ b + 4 → RwAt H' v r → Rk t r → Q v H'
section
variable {P : Program} {w : World} {K : PySem.W.Frag} {mg : Str → Option Value} {base : Heap} {fD fP : Addr}
theorem scRowL : FnScope ["_law_source_here", "_law_some", "_law_names", "_law_column"] ["_law_source_here", "_law_some"] (defScope sRowL) := ⟨rfl, rfl, rfl, by decide +kernel, rfl, by decide +kernel, by decide +kernel⟩
theorem ok_rowl {f : Addr} {fd fdP : FuncData} (F : Fun K "_law_row" "_law_row" sRowL f fd) (T : TxtL K mg fD fP) (GP : FnOk P w K mg base CX0 2 fP fdP ["_law_source_here", "_law_items"] (spPick K)) (bP : Binds K fdP ["_law_source_here", "_law_items"] []) :
    FnOk P w K mg base CX0 3 f fd ["_law_source_here", "_law_some"] spRowL := by
  refine F.ok scRowL (fun vs H Q E h => ?_) (fun cdv A outer s H vs Q E hr h => ?_)
  · obtain ⟨s, l, sm, ms, z, b, t, rfl, _⟩ := h
    rfl
  · obtain ⟨a, l, sm, ms, z, b, t, rfl, hs, b0, b1, ⟨o, a1, a2, a3, h0, hod, T1, T2, T3⟩, g, k⟩ := h
    refine ⟨_, pss_cons (ps_setLc (i := 2) (own := [("_law_column", 3)]) (g := gName 3) (tt := tYes) rfl scRowL.nd rfl rfl (sw_true rfl rfl rfl (by decide +kernel)) (pi_tup (pe_ix ix_tup (pv 1) pe_int (fun _ _ => rfl)))
          (blkOk_by (N := ["_law_source_here", "_law_some", "_law_names", "_law_column"]) (sc := defScope sRowL) (by decide +kernel)) (fun _ _ _ _ _ => pg_name (i := 3) scRowL.nd rfl (Or.inl rfl)) (fun _ _ _ _ _ => pts_nil)
          (fun _ _ _ _ _ => pe_call GP hr rfl T.gP T.kP bP .nil pass0 (pa_cons (pv 0) (pa_cons (pe_lst (pa_cons pe_str (pa_cons pe_str (pa_cons pe_str (pa_cons pe_str pa_nil))))) pa_nil))))
      (pss_one (ps_ret (pe_callTy call_tupleF (by rfl) T.tuple (by decide +kernel) (pa_cons (pe_op op_cat (pv 2) (pe_lc (own := [("_law_column", 3)]) (g := gName 3) (tt := tYes) rfl scRowL.nd (pi_tup (pe_ix ix_tup (pv 1) pe_int (fun _ _ => rfl)))
          (blkOk_by (N := ["_law_source_here", "_law_some", "_law_names", "_law_column"]) (sc := defScope sRowL) (by decide +kernel)) (fun _ _ _ _ _ => pg_name (i := 3) scRowL.nd rfl (Or.inl rfl)) (fun _ _ _ _ _ => pts_nil)
          (fun _ _ _ _ _ => pe_call GP hr rfl T.gP T.kP bP .nil pass0 (pa_cons (pv 0) (pa_cons (pe_lst (pa_cons pe_int (pa_cons pe_int (pa_cons (pe_un un_neg pe_int) (pa_cons pe_int (pa_cons (pe_op op_sub (pe_op op_pow pe_int pe_int) pe_int) pa_nil)))))) pa_nil))))) pa_nil)))), ?_⟩
    have big : sizeLine > 1000 := by decide
    have l2 := g.l2
    have l3 := g.l3
    have at_ : ∀ {H' : Hp} {ms' : List Int} {b' : Int}, But a l H H' → SqT K H' sm [.str t.nm, .ref a1, .ref a2, .ref a3] := fun {H' ms' b'} kk => .inl (.inr ⟨o, kk.fz hs _ _ _ h0⟩)
    have tup : ∀ {H' : Hp} {c : Addr} {ss : List Str}, But a l H H' → TupS H c ss → SqT K H' c (ss.map V.str) := fun kk T => (T.fz (kk.fz hs)).sq
    refine ⟨_, rfl, sm, _, 1, .ref a1, rfl, rfl, at_ (ms' := ms) (b' := b) (fun _ _ _ _ e => e), rfl, a1, rfl, ⟨_, tup (fun _ _ _ _ e => e) T1⟩, fun D hD => ?_⟩
    have fD := hs.free hD
    refine lc_tup (K := K) (a := a1) (xs := t.ss.map V.str) (fun i H' => ∃ (ms' : List Int) (ys : List Str), But a l H H' ∧ Src H' a l ms' z (b + (i : Int)) ∧ H' D = some (.lst (ys.map V.str)) ∧ ys.length = i ∧ ys.all nmS = true) ?_ (fun i H' _ ⟨_, _, kk, _⟩ => tup kk T1) ?_ ?_
    · exact ⟨ms, [], But.put (fun _ _ _ _ e => e) hD, by rw [show b + ((0 : Nat) : Int) = b by omega]; exact hs.put fD, upd_same, rfl, rfl⟩
    · rintro i y H2 hi ⟨ms2, ys, k2, hs2, e2, ly, ay⟩
      refine ⟨rfl, ?_⟩
      dsimp only [tYes]
      rw [if_pos rfl]
      have li : i < t.ss.length := by
        have := (List.getElem?_eq_some_iff.mp hi).1
        rw [List.length_map] at this
        exact this
      refine ⟨_, rfl, by show 4 ≤ sizeLine; omega, fun q hq => ?_⟩
      have fq := hs2.free hq
      have qD : q ≠ D := fun e => by
        rw [e, e2] at hq
        cases hq
      refine ⟨a, l, .ref q, ms2, z, b + (i : Int), rfl, hs2.put fq, by omega, by omega, .inl ⟨q, fourN.map V.str, rfl, fun H' kk => SqL.of (kk _ _ fq.1 fq.2 upd_same), by decide, by decide, fun H3 ms3 v k3 hs3 hv => ?_⟩⟩
      obtain ⟨x, hx, rfl⟩ := List.mem_map.mp hv
      have e3 : H3 D = some (.lst (ys.map V.str)) := k3 _ _ fD.1 fD.2 (by rw [upd_ne qD.symm]; exact e2)
      refine ⟨_, e3, by rw [List.length_map]; omega, ms3, ys ++ [x], ((k2.put (k2.back hs2 hq)).trans k3).put hD, ?_, ?_, by rw [List.length_append, ly]; rfl, ?_⟩
      · rw [show b + ((i + 1 : Nat) : Int) = b + (i : Int) + 1 by omega]
        exact hs3.put fD
      · rw [upd_same, List.map_append]
        rfl
      · rw [List.all_append, ay, Bool.true_and]
        show (nmS x && true) = true
        rw [Bool.and_true]
        exact List.all_eq_true.mp fourN_nm x hx
    rintro H2 ⟨ms2, ys, k2, hs2, e2, ly, ay⟩
    rw [List.length_map] at hs2 ly
    refine ⟨_, rfl, _, rfl, sm, _, 2, .ref a2, rfl, rfl, at_ (ms' := ms) (b' := b) k2, rfl, a2, rfl, ⟨_, tup k2 T2⟩, fun D2 hD2 => ?_⟩
    have fD2 := hs2.free hD2
    have hD2H := k2.back hs2 hD2
    have DD : D2 ≠ D := fun e => by
      rw [e, e2] at hD2
      cases hD2
    refine lc_tup (K := K) (a := a2) (xs := t.zs.map V.str) (fun i H' => ∃ (ms' : List Int) (is : List Int), But a l H H' ∧ Src H' a l ms' z (b + (t.ss.length : Int) + (i : Int)) ∧ H' D2 = some (.lst (is.map V.int)) ∧ is.length = i ∧ (∀ v ∈ is, v.natAbs < 10 ^ 40) ∧ H' D = some (.lst (ys.map V.str)))
      ?_ (fun i H' _ ⟨_, _, kk, _⟩ => tup kk T2) ?_ ?_
    · refine ⟨ms2, [], k2.put hD2H, ?_, upd_same, rfl, (fun v h => nomatch h), ?_⟩
      · rw [show b + (t.ss.length : Int) + ((0 : Nat) : Int) = b + (t.ss.length : Int) by omega]
        exact hs2.put fD2
      · rw [upd_ne DD.symm]
        exact e2
    · rintro i y H3 hi ⟨ms3, is, k3, hs3, e3, li, sm3, eD⟩
      refine ⟨rfl, ?_⟩
      dsimp only [tYes]
      rw [if_pos rfl]
      have lt : i < t.zs.length := by
        have := (List.getElem?_eq_some_iff.mp hi).1
        rw [List.length_map] at this
        exact this
      refine ⟨_, rfl, _, rfl, _, _, rfl, rfl, ⟨by decide, by decide, by decide⟩, _, _, rfl, rfl, by show 5 ≤ sizeLine; omega, fun q hq => ?_⟩
      have fq := hs3.free hq
      have qD2 : q ≠ D2 := fun e => by
        rw [e, e3] at hq
        cases hq
      have qD : q ≠ D := fun e => by
        rw [e, eD] at hq
        cases hq
      refine ⟨a, l, .ref q, ms3, z, b + (t.ss.length : Int) + (i : Int), rfl, hs3.put fq, by omega, by omega, .inl ⟨q, fiveI.map V.int, rfl, fun H' kk => SqL.of (kk _ _ fq.1 fq.2 upd_same), by show 0 < 5; decide, by show 5 ≤ 1000; decide, fun H4 ms4 v k4 hs4 hv => ?_⟩⟩
      obtain ⟨x, hx, rfl⟩ := List.mem_map.mp hv
      have e4 : H4 D2 = some (.lst (is.map V.int)) := k4 _ _ fD2.1 fD2.2 (by rw [upd_ne qD2.symm]; exact e3)
      have eD4 : H4 D = some (.lst (ys.map V.str)) := k4 _ _ fD.1 fD.2 (by rw [upd_ne qD.symm]; exact eD)
      refine ⟨_, e4, by rw [List.length_map]; omega, ms4, is ++ [x], ((k3.put (k3.back hs3 hq)).trans k4).put hD2H, ?_, ?_, by rw [List.length_append, li]; rfl, ?_, ?_⟩
      · rw [show b + (t.ss.length : Int) + ((i + 1 : Nat) : Int) = b + (t.ss.length : Int) + (i : Int) + 1 by omega]
        exact hs4.put fD2
      · rw [upd_same, List.map_append]
        rfl
      · intro v hv'
        rcases List.mem_append.mp hv' with q | q
        · exact sm3 v q
        · rw [List.mem_singleton.mp q]
          exact fiveI_sm x hx
      · rw [upd_ne DD.symm]
        exact eD4
    · rintro H3 ⟨ms3, is, k3, hs3, e3, li, sm3, eD⟩
      rw [List.length_map] at hs3 li
      refine ⟨D, D2, _, _, rfl, rfl, eD, e3, by rw [List.length_map, List.length_map]; omega, fun p hp => ⟨p, _, rfl, SqL.of upd_same, fun q ob hq hd => ?_⟩⟩
      have s4 := (same_upd (o := .lst (ys.map V.str ++ is.map V.int)) hp).trans (same_upd (o := .frz ob (.tup (ys.map V.str ++ is.map V.int))) hq)
      refine k _ ms3 _ (.ref q) (ys.map Cell.s ++ is.map Cell.i) (k3.trans (.of_same s4)) (hs3.but s4) (by omega) (by omega) ⟨q, ob, rfl, ?_, hd⟩ (row_of (by omega) (by omega) ay sm3)
      rw [upd_same, cells_v]
end
end Vm
/-! the law: a row near those that are there -/
namespace Vm
open PySem L2
abbrev sNear : Stmt := top 50
/-- a tuple that was made here -/
def TupV (H : Hp) (a : Addr) (xs : List V) : Prop := ∃ o : Obj, H a = some (.frz o (.tup xs)) ∧ o.dict = none
theorem TupV.fz {H H' : Hp} {a : Addr} {xs : List V} (k : Fz H H') (h : TupV H a xs) : TupV H' a xs := let ⟨o, e, d⟩ := h; ⟨o, k _ _ _ e, d⟩
theorem TupV.sq {K : PySem.W.Frag} {H : Hp} {a : Addr} {xs : List V} (h : TupV H a xs) : SqT K H a xs := let ⟨o, e, _⟩ := h; .inl (.inr ⟨o, e⟩)
section
variable {X : Cx}
def rSlT (K : PySem.W.Frag) : V → Option Int → Option Int → Hp → VK → Prop := fun x lo hi H Q => ∃ a xs, x = .ref a ∧ TupV H a xs ∧ ∀ (q : Addr) (H' : Hp), Same H H' → TupV H' q (cutV xs lo hi) → Q (.ref q) H'
theorem sl_T : SlR X (rSlT X.K) := by
  intro pins s σ H x v vl vu lo hi sl Q I rx hs pl pu h
  obtain ⟨a, xs, rfl, hx, q⟩ := h
  refine sl_tupF pins s σ H _ v vl vu lo hi sl Q I rx hs pl pu ⟨a, xs, rfl, hx.sq, fun z => ?_, fun p o hp hd => ?_⟩
  · refine q a H (Same.refl H) ?_
    rw [cut_all xs lo hi z]
    exact hx
  · exact q p _ (same_upd hp) ⟨o, upd_same, hd⟩
def rCatT (K : PySem.W.Frag) : R2 := fun x y H Q => ∃ a b xs ys, x = .ref a ∧ y = .ref b ∧ TupV H a xs ∧ TupV H b ys ∧ xs.length + ys.length ≤ sizeLine ∧ ∀ (q : Addr) (H' : Hp), Same H H' → TupV H' q (xs ++ ys) → Q (.ref q) H'
theorem op_catT2 : OpR X (binaryOp .Add) (rCatT X.K) := by
  intro pins s σ H x y v u Q I rx ry h
  obtain ⟨a, b, xs, ys, rfl, rfl, ha, hb, hz, q⟩ := h
  refine op_catF pins s σ H _ _ v u Q I rx ry ⟨a, b, xs, ys, rfl, rfl, ha.sq, hb.sq, hz, fun e => ?_, fun _ e => ?_, fun _ _ p o hp hd => ?_⟩
  · subst e
    exact q b H (Same.refl H) hb
  · subst e
    exact q a H (Same.refl H) (by rw [List.append_nil]; exact ha)
  · exact q p _ (same_upd hp) ⟨o, upd_same, hd⟩
end
theorem cut_mid (xs : List V) (k : Nat) (h : k < xs.length) : cutV xs (some (k : Int)) (some ((k : Int) + 1)) = (xs.drop k).take 1 := by
  have e1 : HT.sIx xs.length 0 (some (k : Int)) = k := by
    have q := HT.sIx_nat xs.length 0 k
    rw [q]
    omega
  have e2 : HT.sIx xs.length xs.length (some ((k : Int) + 1)) = k + 1 := by
    have q := HT.sIx_nat xs.length xs.length (k + 1)
    have c : (((k + 1 : Nat)) : Int) = (k : Int) + 1 := by omega
    rw [c] at q
    rw [q]
    omega
  unfold cutV
  rw [e1, e2, show k + 1 - k = 1 by omega]
theorem mix_set {r o : Row} {k : Nat} {c : Cell} (e : o[k]? = some c) (h : k < r.length) : ((r.map Cell.v).take k ++ ((o.map Cell.v).drop k).take 1) ++ (r.map Cell.v).drop (k + 1) = (r.set k c).map Cell.v := by
  have lt := (List.getElem?_eq_some_iff.mp e).1
  have d : (o.map Cell.v).drop k = c.v :: (o.map Cell.v).drop (k + 1) := by
    rw [List.drop_eq_getElem_cons (by rw [List.length_map]; exact lt)]
    congr 1
    rw [List.getElem_map, (List.getElem?_eq_some_iff.mp e).2]
  rw [d]
  show ((r.map Cell.v).take k ++ [c.v]) ++ (r.map Cell.v).drop (k + 1) = _
  rw [List.set_eq_take_append_cons_drop, if_pos h, List.map_append, List.map_cons, List.map_take, List.map_drop, List.append_assoc]
  rfl
theorem Rk.set {t : Ti} {r o : Row} {k : Nat} {c : Cell} (h : Rk t r) (h2 : Rk t o) (e : o[k]? = some c) : Rk t (r.set k c) := by
  refine ⟨⟨by rw [List.length_set]; exact h.ok.len, fun i d ed => ?_⟩, fun d m => ?_⟩
  · rw [List.getElem?_set] at ed
    split at ed
    · rename_i q
      subst q
      split at ed
      · obtain rfl := Option.some.inj ed
        exact h2.ok.cell k c e
      · cases ed
    · exact h.ok.cell i d ed
  · rcases List.mem_or_eq_of_mem_set m with m | m
    · exact h.sm d m
    · rw [m]
      exact h2.sm c (List.mem_of_getElem? e)
theorem rows_depth : ∀ rs : List Row, PyData.depthAll (rs.map rowD) ≤ 1
  | [] => Nat.zero_le _
  | r :: rs => by
    have h := rows_depth rs
    have h2 := row_depth r
    show Nat.max (rowD r).depth (PyData.depthAll (rs.map rowD)) ≤ 1
    exact Nat.max_le.mpr ⟨by omega, h⟩
theorem listD_depth (rs : List Row) : (PyData.list (rs.map rowD)).depth ≤ 6 := by
  have h := rows_depth rs
  simp only [PyData.depth]
  omega
def spNear : Sp := fun vs H Q _ => ∃ (s l sm rl : Addr) (ms : List Int) (z b : Int) (t : Ti) (xs : List V) (rs : List Row), vs = [.ref s, .ref sm, .ref rl] ∧ Src H s l ms z b ∧ 0 ≤ b ∧ b < 700000 ∧ ArgT H sm t ∧ t.ok ∧ H rl = some (.lst xs) ∧ Off s l rl ∧ RowsAt H xs rs ∧ (∀ r ∈ rs, Rk t r) ∧ rs.length ≤ 100 ∧
  ∀ (H' : Hp) (ms' : List Int) (b' : Int) (v : V) (r : Row), But s l H H' → Src H' s l ms' z b' → b ≤ b' → b' ≤ b + 10 → RwAt H' v r → Rk t r → Q v H'
section
variable {P : Program} {w : World} {K : PySem.W.Frag} {mg : Str → Option Value} {base : Heap} {fD fP fR : Addr}
theorem scNear : FnScope ["_law_source_here", "_law_some", "_law_rows", "_law_way", "_law_row_here", "_law_other", "_law_at"] ["_law_source_here", "_law_some", "_law_rows"] (defScope sNear) := ⟨rfl, rfl, rfl, by decide +kernel, rfl, by decide +kernel, by decide +kernel⟩
theorem ok_near {f : Addr} {fd fdD fdP fdR : FuncData} (F : Fun K "_law_near" "_law_near" sNear f fd) (T : TxtL K mg fD fP) (GD : FnOk P w K mg base CX0 1 fD fdD ["_law_source_here", "_law_many"] spDraw) (bD : Binds K fdD ["_law_source_here", "_law_many"] [])
    (GP : FnOk P w K mg base CX0 2 fP fdP ["_law_source_here", "_law_items"] (spPick K)) (bP : Binds K fdP ["_law_source_here", "_law_items"] [])
    (cR : Calls K mg "_law_row" fR) (GR : FnOk P w K mg base CX0 3 fR fdR ["_law_source_here", "_law_some"] spRowL) (bR : Binds K fdR ["_law_source_here", "_law_some"] []) :
    FnOk P w K mg base CX0 4 f fd ["_law_source_here", "_law_some", "_law_rows"] spNear := by
  refine F.ok scNear (fun vs H Q E h => ?_) (fun cdv A outer s H vs Q E hr h => ?_)
  · obtain ⟨s, l, sm, rl, ms, z, b, t, xs, rs, rfl, _⟩ := h
    rfl
  · obtain ⟨a, l, sm, rl, ms, z, b, t, xs, rs, rfl, hs, b0, b1, at_, g, erl, offr, rows, okr, few, k⟩ := h
    have hr1 : Room 1 _ := hr.mono (by decide)
    have hr2 : Room 2 _ := hr.mono (by decide)
    have hu : (A.deeper (PyProof.Rows.envOfC "_law_near" (defScope sNear) s.heap.objs.size f cdv)).units + 8 < cLine := by
      have := hr.units
      omega
    refine ⟨_, pss_cons (ps_set (i := 3) scNear.nd rfl (Or.inl rfl) (pe_call GD hr1 rfl T.gD T.kD bD .nil pass0 (pa_cons (pv 0) (pa_cons pe_int pa_nil))))
      (pss_cons (ps_if (PW.pt (pw_or (pt_cmpR (op_eqP hu) (pv 2) (pe_lst pa_nil) (nomark _)) (pw_or1 (pt_cmpR op_eq (pv 3) pe_int (nomark _)))))
        (pss_one (ps_ret (pe_call GR hr rfl cR.g cR.k bR .nil pass0 (pa_cons (pv 0) (pa_cons (pv 1) pa_nil))))) pss_nil)
      (pss_cons (ps_par3 (i := 4) (j := 5) (l := 6) rfl scNear.nd rfl rfl rfl (by decide) (by decide) (by decide) rfl rfl rfl
          (pa_cons (pe_call GP hr2 rfl T.gP T.kP bP .nil pass0 (pa_cons (pv 0) (pa_cons (pv 2) pa_nil)))
            (pa_cons (pe_call GR hr rfl cR.g cR.k bR .nil pass0 (pa_cons (pv 0) (pa_cons (pv 1) pa_nil)))
              (pa_cons (pe_call GD hr1 rfl T.gD T.kD bD .nil pass0 (pa_cons (pv 0) (pa_cons (pe_op op_add (pe_callB call_len_seq (by rfl) T.len (by decide +kernel) (pa_cons (pe_ix ix_tup (pv 1) pe_int (fun _ _ => rfl)) pa_nil))
                (pe_callB call_len_seq (by rfl) T.len (by decide +kernel) (pa_cons (pe_ix ix_tup (pv 1) pe_int (fun _ _ => rfl)) pa_nil))) pa_nil))) pa_nil))) (by rfl))
      (pss_one (ps_ret (pe_ix ix_list (pe_lst (pa_cons (pv 4) (pa_cons (pv 4) (pa_cons (pe_op op_catT2 (pe_op op_catT2 (pe_slice sl_T (pv 4) po_none (po_some (pv 6))) (pe_slice sl_T (pv 5) (po_some (pv 6)) (po_some (pe_op op_add (pv 6) pe_int))))
          (pe_slice sl_T (pv 4) (po_some (pe_op op_add (pv 6) pe_int)) po_none)) pa_nil)))) (pe_op op_sub (pv 3) pe_int) (fun _ _ => rfl)))))), ?_⟩
    have big : sizeLine > 1000 := by decide
    refine ⟨_, rfl, a, l, ms, z, b, 4, rfl, hs, by decide, by decide, b0, by omega, fun H1 ms1 way k1 hs1 w0 w4 => ?_⟩
    have e1 := k1 _ _ offr.1 offr.2 erl
    refine ⟨_, rfl, by show 0 ≤ sizeLine; omega, fun q hq => ?_⟩
    have s2 := same_upd (o := .lst []) hq
    have k2 : But a l H (upd H1 q (.lst [])) := k1.trans (.of_same s2)
    have hs2 := hs1.but s2
    have eq2 : upd H1 q (.lst []) q = some (.lst []) := upd_same
    have erl2 := s2 _ _ e1
    show rEqP _ _ _ _ (upd H1 q (.lst [])) _
    generalize upd H1 q (.lst []) = H2 at s2 k2 hs2 eq2 erl2 ⊢
    have fz2 : Fz H H2 := k2.fz hs
    have row : ∀ {H3 : Hp}, But a l H H3 → Src H3 a l ms1 z (b + 1) → ∃ (s' l' sm' : Addr) (ms' : List Int) (z' b' : Int) (t' : Ti), [V.ref a, V.ref sm] = [.ref s', .ref sm'] ∧ Src H3 s' l' ms' z' b' ∧ 0 ≤ b' ∧ b' < 800000 ∧ ArgT H3 sm' t' ∧ t'.ok ∧
        ∀ (H' : Hp) (ms'' : List Int) (b'' : Int) (v : V) (r : Row), But s' l' H3 H' → Src H' s' l' ms'' z' b'' → b' ≤ b'' → b'' ≤ b' + 4 → RwAt H' v r → Rk t' r → Q v H' := fun {H3} k3 hs3 =>
      ⟨a, l, sm, ms1, z, b + 1, t, rfl, hs3, by omega, by omega, at_.fz (k3.fz hs), g, fun H' ms'' b'' v r kk hh c1 c2 ra rk => k H' ms'' b'' v r (k3.trans kk) hh (by omega) (by omega) ra rk⟩
    refine ⟨.list (rs.map rowD), .list [], .lst (SqL.of erl2) (rows_dp (RowsAt.keep fz2 rows)), .lst (SqL.of eq2) .nil, rows_plain rs, rfl, ?_, _, rfl, ?_⟩
    · exact listD_depth rs
    have ev : PyData.eqv (.list (rs.map rowD)) (.list []) = decide (rs = []) := rows_eqv rs []
    show if PyData.eqv (.list (rs.map rowD)) (.list []) = true then _ else _
    rw [ev]
    by_cases er : rs = []
    · rw [decide_eq_true er]
      refine iteT (iteT ⟨_, rfl, _, rfl, row k2 hs2⟩)
    rw [decide_eq_false er]
    refine iteF ?_
    refine ⟨_, rfl, rfl, _, rfl, ?_⟩
    refine ite2 (fun e => ?_) (fun e => ?_)
    · exact ⟨_, rfl, _, rfl, row k2 hs2⟩
    have wn0 : way ≠ 0 := fun z => e (decide_eq_true (by rw [z]))
    have rpos : 0 < rs.length := List.length_pos_iff.mpr er
    have lx : xs.length = rs.length := rows.length
    refine ⟨_, rfl, _, rfl, a, l, .ref rl, ms1, z, b + 1, rfl, hs2, by omega, by omega, .inl ⟨rl, xs, rfl, fun H' kk => SqL.of (kk _ _ offr.1 offr.2 erl2), by omega, by omega, fun H3 ms3 v k3 hs3 hv => ?_⟩⟩
    have k03 := k2.trans k3
    obtain ⟨r, hr', ra⟩ := (RowsAt.keep (k03.fz hs) rows).left v hv
    have rk := okr r hr'
    refine ⟨_, rfl, _, rfl, a, l, sm, ms3, z, b + 1 + 1, t, rfl, hs3, by omega, by omega, at_.fz (k03.fz hs), g, fun H4 ms4 b4 v2 o k4 hs4 c41 c42 oa ok => ?_⟩
    have k04 := k03.trans k4
    have ra4 := ra.keep (k4.fz hs3)
    obtain ⟨ob, a1, a2, a3, h0, hod, T1, T2, T3⟩ := at_.fz (k04.fz hs)
    have h0' : SqT K H4 sm [.str t.nm, .ref a1, .ref a2, .ref a3] := .inl (.inr ⟨ob, h0⟩)
    have g2 := g.l2
    have g3 := g.l3
    have gn := g.ne
    rw [List.length_append] at gn
    refine ⟨_, rfl, _, rfl, sm, _, 1, .ref a1, rfl, rfl, h0', rfl, a1, _, rfl, .inr T1.sq, _, rfl, sm, _, 2, .ref a2, rfl, rfl, h0', rfl, a2, _, rfl, .inr T2.sq, _, _, rfl, rfl, a, l, ms4, z, b4, ((t.ss.map V.str).length : Int) + ((t.zs.map V.str).length : Int), rfl, hs4, by rw [List.length_map, List.length_map]; omega, by rw [List.length_map, List.length_map]; omega, by omega, by omega, fun H5 ms5 at' k5 hs5 p5 q5 => ?_⟩
    rw [List.length_map, List.length_map] at q5
    obtain ⟨n, rfl⟩ : ∃ n : Nat, at' = (n : Int) := ⟨at'.toNat, by omega⟩
    have nr : n < r.length := by rw [rk.ok.len]; omega
    have no : n < o.length := by rw [ok.ok.len]; omega
    have k05 := k04.trans k5
    have ra5 := ra4.keep (k5.fz hs4)
    have oa5 := oa.keep (k5.fz hs4)
    obtain ⟨pr, o1, rfl, hr1', hd1⟩ := ra5
    obtain ⟨po, o2, rfl, ho1, hd2⟩ := oa5
    refine ⟨_, _, _, rfl, ?_⟩
    have tr : TupV H5 pr (r.map Cell.v) := ⟨o1, hr1', hd1⟩
    have to : TupV H5 po (o.map Cell.v) := ⟨o2, ho1, hd2⟩
    refine ⟨_, rfl, _, rfl, _, rfl, _, rfl, (n : Int), rfl, pr, _, rfl, tr, fun q1 H6 s6 t6 => ?_⟩
    rw [cut_take] at t6
    refine ⟨_, rfl, _, rfl, (n : Int), rfl, _, rfl, _, _, rfl, rfl, (n : Int) + 1, rfl, po, _, rfl, to.fz (.of_same s6), fun q2 H7 s7 t7 => ?_⟩
    rw [cut_mid _ _ (by rw [List.length_map]; exact no)] at t7
    refine ⟨q1, q2, _, _, rfl, rfl, t6.fz (.of_same s7), t7, ?_, fun q3 H8 s8 t8 => ?_⟩
    · rw [List.length_take, List.length_take, List.length_map]
      omega
    have s58 := (s6.trans s7).trans s8
    refine ⟨_, rfl, _, rfl, _, _, rfl, rfl, (n : Int) + 1, rfl, pr, _, rfl, tr.fz (.of_same s58), fun q4 H9 s9 t9 => ?_⟩
    have c9 : cutV (r.map Cell.v) (some ((n : Int) + 1)) none = (r.map Cell.v).drop (n + 1) := cut_drop _ (n + 1)
    rw [c9] at t9
    refine ⟨q3, q4, _, _, rfl, rfl, t8.fz (.of_same s9), t9, ?_, fun q6 H10 s10 t10 => ?_⟩
    · rw [List.length_append, List.length_take, List.length_take, List.length_drop, List.length_drop, List.length_map, List.length_map]
      have := rk.ok.len
      omega
    have eo : o[n]? = some o[n] := List.getElem?_eq_getElem no
    rw [mix_set eo nr] at t10
    have s5A := (s58.trans s9).trans s10
    refine ⟨by show 3 ≤ sizeLine; omega, fun L hL => ?_⟩
    have sL := same_upd (o := .lst [V.ref pr, .ref pr, .ref q6]) hL
    have sA := s5A.trans sL
    have kA : But a l H (upd H10 L (.lst [V.ref pr, .ref pr, .ref q6])) := k05.trans (.of_same sA)
    have hsA := hs5.but sA
    have eL : upd H10 L (.lst [V.ref pr, .ref pr, .ref q6]) L = some (.lst [V.ref pr, .ref pr, .ref q6]) := upd_same
    have trA := tr.fz (.of_same sA)
    have t10A := t10.fz (.of_same sL)
    generalize upd H10 L (.lst [V.ref pr, .ref pr, .ref q6]) = HA at kA hsA eL trA t10A ⊢
    have fin1 : Q (.ref pr) HA := k HA ms5 _ (.ref pr) r kA hsA (by omega) (by omega) (let ⟨o, e, d⟩ := trA; ⟨pr, o, rfl, e, d⟩) rk
    have fin2 : Q (.ref q6) HA := k HA ms5 _ (.ref q6) (r.set n o[n]) kA hsA (by omega) (by omega) (let ⟨o, e, d⟩ := t10A; ⟨q6, o, rfl, e, d⟩) (rk.set ok eo)
    have w3 : way = 1 ∨ way = 2 ∨ way = 3 := by omega
    rcases w3 with e | e | e <;> subst e
    · exact ⟨_, rfl, _, _, rfl, rfl, L, [V.ref pr, .ref pr, .ref q6], 0, _, rfl, rfl, SqL.of eL, rfl, fin1⟩
    · exact ⟨_, rfl, _, _, rfl, rfl, L, [V.ref pr, .ref pr, .ref q6], 1, _, rfl, rfl, SqL.of eL, rfl, fin1⟩
    · exact ⟨_, rfl, _, _, rfl, rfl, L, [V.ref pr, .ref pr, .ref q6], 2, _, rfl, rfl, SqL.of eL, rfl, fin2⟩
end
end Vm
/-! the law: keys, rows that are barred -/
namespace Vm
open PySem L2
abbrev sKeyL : Stmt := top 51
abbrev sBarred : Stmt := top 52
def keyC (t : Ti) (r : Row) : Row := t.ks.map fun k => r.getD (t.cols.idxOf k) (.i 0)
theorem keyC_clash {t : Ti} (g : t.ok) {r o : Row} (h1 : Row.ok t r) (h2 : Row.ok t o) : (decide (t.ks ≠ []) && decide (keyC t o = keyC t r)) = clashR t r o := by
  unfold clashR
  show _ = clashB (t.ss ++ t.zs) t.ks _ _
  rw [← clash_ways g.nd g.sub]
  unfold clashL
  congr 1
  rw [Bool.eq_iff_iff, decide_eq_true_eq, List.all_eq_true]
  unfold keyC
  have lens := h1.len
  have leno := h2.len
  have vin : ∀ {a b : Cell}, a.v = b.v → a = b := by
    intro a b e
    cases a <;> cases b
    · exact congrArg Cell.s (V.str.inj e)
    · exact nomatch e
    · exact nomatch e
    · exact congrArg Cell.i (V.int.inj e)
  have get : ∀ (k : Str), k ∈ t.ks → ∀ (q : Row), q.length = t.ss.length + t.zs.length → (q.map Cell.v).getD (t.cols.idxOf k) .non = (q.getD (t.cols.idxOf k) (.i 0)).v := by
    intro k m q lq
    have lt := List.idxOf_lt_length_of_mem (g.sub k m)
    rw [List.length_append] at lt
    show (q.map Cell.v).getD ((t.ss ++ t.zs).idxOf k) .non = (q.getD ((t.ss ++ t.zs).idxOf k) (.i 0)).v
    rw [List.getD_eq_getElem?_getD, List.getD_eq_getElem?_getD, List.getElem?_map, List.getElem?_eq_getElem (by omega)]
    rfl
  constructor
  · intro e k m
    refine decide_eq_true ?_
    rw [show (t.ss ++ t.zs) = t.cols from rfl, get k m r lens, get k m o leno]
    have := List.map_inj_left.mp e k m
    rw [this]
  · intro e
    refine List.map_inj_left.mpr fun k m => ?_
    have := of_decide_eq_true (e k m)
    rw [show (t.ss ++ t.zs) = t.cols from rfl, get k m r lens, get k m o leno] at this
    exact (vin this).symm
def spKeyL : Sp := fun vs H Q _ => ∃ (sm : Addr) (x : V) (t : Ti) (r : Row), vs = [.ref sm, x] ∧ ArgT H sm t ∧ t.ok ∧ RwAt H x r ∧ Row.ok t r ∧ ∀ H' D, Same H H' → H D = none → H' D = some (.lst ((keyC t r).map Cell.v)) → Q (.ref D) H'
def spBarred (K : PySem.W.Frag) : Sp := fun vs H Q _ => ∃ (sm q : Addr) (x : V) (t : Ti) (r : Row) (ws : List V) (rs : List Row), vs = [.ref sm, .ref q, x] ∧ ArgT H sm t ∧ t.ok ∧ RwAt H x r ∧ SqL K H q ws ∧ RowsAt H ws rs ∧ Row.ok t r ∧ (∀ o ∈ rs, Row.ok t o) ∧ rs.length ≤ 100 ∧
  ∀ H', Same H H' → Q (.bl (rs.any (clashR t r))) H'
section
variable {P : Program} {w : World} {K : PySem.W.Frag} {mg : Str → Option Value} {base : Heap} {fK : Addr}
theorem scKeyL : FnScope ["_law_some", "_law_row_here", "_law_columns_here", "_law_column"] ["_law_some", "_law_row_here"] (defScope sKeyL) := ⟨rfl, rfl, rfl, by decide +kernel, rfl, by decide +kernel, by decide +kernel⟩
theorem scBarred : FnScope ["_law_some", "_law_rows", "_law_row_here", "_law_key_here", "_law_one"] ["_law_some", "_law_rows", "_law_row_here"] (defScope sBarred) := ⟨rfl, rfl, rfl, by decide +kernel, rfl, by decide +kernel, by decide +kernel⟩
theorem ok_keyl {f : Addr} {fd : FuncData} (F : Fun K "_law_key" "_law_key" sKeyL f fd) : FnOk P w K mg base CX0 1 f fd ["_law_some", "_law_row_here"] spKeyL := by
  refine F.ok scKeyL (fun vs H Q E h => ?_) (fun cdv A outer s H vs Q E hr h => ?_)
  · obtain ⟨sm, x, t, r, rfl, _⟩ := h
    rfl
  · obtain ⟨sm, x, t, r, rfl, ⟨o, a1, a2, a3, h0, hod, T1, T2, T3⟩, g, hx, ok, k⟩ := h
    obtain ⟨p, ob, rfl, hp, hpd⟩ := hx
    have big : sizeLine > 1000 := by decide
    have l2 := g.l2
    have l3 := g.l3
    have l4 := g.l4
    refine ⟨_, pss_cons (ps_set (i := 2) scKeyL.nd rfl (Or.inr rfl) (pe_op op_catE (pe_ix ix_tup (pv 0) pe_int (fun _ _ => rfl)) (pe_ix ix_tup (pv 0) pe_int (fun _ _ => rfl))))
      (pss_one (ps_ret (pe_lc (own := [("_law_column", 3)]) (g := gName 3) (tt := tYes) (te := tOp (rIxT K) (tVar 1) (tBMF (rIdx K) (tVar 2) (tCons (tVar 3) tNil))) rfl scKeyL.nd (pi_tup (pe_ix ix_tup (pv 0) pe_int (fun _ _ => rfl)))
            (blkOk_by (N := ["_law_some", "_law_row_here", "_law_columns_here", "_law_column"]) (sc := defScope sKeyL) (by decide +kernel))
            (fun _ _ _ _ _ => pg_name (i := 3) scKeyL.nd rfl (Or.inl rfl))
            (fun _ _ _ _ _ => pts_nil)
            (fun _ _ _ _ _ => by exact (pe_ix ix_tup (pv 1) (by exact (pe_bmF PySem.F.plainAttrs_tuple PySem.F.slot_tuple_index PySem.F.type_tuple_index mt_tup_index (pv 2) (pa_cons (pv 3) pa_nil))) (fun _ _ => rfl)))))), ?_⟩
    have at_ : ∀ {H' : Hp}, Same H H' → SqT K H' sm [.str t.nm, .ref a1, .ref a2, .ref a3] := fun {H'} s' => .inl (.inr ⟨o, s' _ _ h0⟩)
    refine ⟨_, rfl, sm, _, 1, .ref a1, rfl, rfl, at_ (Same.refl H), rfl, _, rfl, sm, _, 2, .ref a2, rfl, rfl, at_ (Same.refl H), rfl, a1, a2, _, _, rfl, rfl, .inr T1, .inr T2, by rw [List.length_map, List.length_map]; omega, fun c H1 s1 hc _ => ?_⟩
    rw [← List.map_append] at hc
    have hcS := hc.ts g.ne
    refine ⟨_, rfl, sm, _, 3, .ref a3, rfl, rfl, at_ s1, rfl, a3, rfl, ⟨_, (T3.same s1).sq⟩, fun D hD => ?_⟩
    refine lc_tup (K := K) (a := a3) (xs := t.ks.map V.str) (fun i H' => Same H1 H' ∧ H' D = some (.lst (((t.ks.take i).map fun k => r.getD (t.cols.idxOf k) (.i 0)).map Cell.v))) ⟨same_upd hD, upd_same⟩ (fun i H' _ z => (T3.same (s1.trans z.1)).sq) ?_ ?_
    · rintro i y H3 hi ⟨s3, e3⟩
      obtain ⟨u, eu, rfl⟩ := map_at hi
      have iu : i < t.ks.length := (List.getElem?_eq_some_iff.mp eu).1
      have mem := g.sub u (List.mem_of_getElem? eu)
      obtain ⟨f1, f2⟩ := idx_first mem
      have lt := List.idxOf_lt_length_of_mem mem
      rw [List.length_append] at lt
      obtain ⟨oc, hoc, hocd⟩ := hcS.same s3
      have lr := ok.len
      generalize hj : (t.ss ++ t.zs).idxOf u = j at f1 f2 lt
      have jr : (r.map Cell.v)[j]? = some (r.getD j (.i 0)).v := by
        rw [List.getElem?_map, List.getD_eq_getElem?_getD, List.getElem?_eq_getElem (by omega)]
        rfl
      refine ⟨rfl, ?_⟩
      dsimp only [tYes]
      rw [if_pos rfl]
      refine ⟨_, rfl, _, rfl, ⟨c, oc, _, rfl, hoc, hocd⟩, _, rfl, c, t.ss ++ t.zs, u, j, rfl, rfl, TupS.sq ⟨oc, hoc, hocd⟩, f1, f2, p, _, (j : Int), _, rfl, rfl, .inl (.inr ⟨ob, s3 _ _ (s1 _ _ hp)⟩), atI_nat jr, ?_⟩
      refine ⟨_, e3, ?_, fun b u' e => ?_, ?_⟩
      · rw [List.length_map, List.length_map, List.length_take]
        omega
      · rw [upd_ne (ne_of_none e hD)]
        exact s3 b u' e
      · rw [upd_same, List.take_add_one, eu]
        simp [Ti.cols, hj]
    · rintro H3 ⟨s3, e3⟩
      rw [List.length_map, List.take_length] at e3
      exact k H3 D (s1.trans s3) (s1.free hD) e3
theorem ok_barred {f : Addr} {fd fdK : FuncData} (F : Fun K "_law_is_barred" "_law_is_barred" sBarred f fd) (cK : Calls K mg "_law_key" fK) (GK : FnOk P w K mg base CX0 1 fK fdK ["_law_some", "_law_row_here"] spKeyL) (bK : Binds K fdK ["_law_some", "_law_row_here"] []) :
    FnOk P w K mg base CX0 2 f fd ["_law_some", "_law_rows", "_law_row_here"] (spBarred K) := by
  refine F.ok scBarred (fun vs H Q E h => ?_) (fun cdv A outer s H vs Q E hr h => ?_)
  · obtain ⟨sm, q, x, t, r, ws, rs, rfl, _⟩ := h
    rfl
  · obtain ⟨sm, q, x, t, r, ws, rs, rfl, at_, g, hx, hq, hrs, o1, o2, few, k⟩ := h
    have hu : (A.deeper (PyProof.Rows.envOfC "_law_is_barred" (defScope sBarred) s.heap.objs.size f cdv)).units + 8 < cLine := by
      have := hr.units
      omega
    have big : sizeLine > 1000 := by decide
    refine ⟨_, pss_cons (ps_set (i := 3) scBarred.nd rfl (Or.inr rfl) (pe_call GK hr rfl cK.g cK.k bK .nil pass0 (pa_cons (pv 0) (pa_cons (pv 2) pa_nil))))
      (pss_one (ps_ret (pe_and (pe_cmpR (op_neP hu) (pe_ix ix_tup (pv 0) pe_int (fun _ _ => rfl)) (pe_tupF pa_nil) (nomark _))
        (pe_one (pe_cmpR (op_neP hu) (pe_lc (own := [("_law_one", 4)]) (g := gName 4) (tt := tTest (tOp (rEqP K false) (tCall spKeyL [] E0 (tCons (tVar 0) (tCons (tVar 4) tNil))) (tVar 3))) (te := tVar 4) rfl scBarred.nd (pi_list (pv 1))
            (blkOk_by (N := ["_law_some", "_law_rows", "_law_row_here", "_law_key_here", "_law_one"]) (sc := defScope sBarred) (by decide +kernel))
            (fun _ _ _ _ _ => pg_name (i := 4) scBarred.nd rfl (Or.inl rfl))
            (fun _ _ _ _ _ => by exact (pts_one (pt_cmpR (op_eqP hu) (pe_call GK hr rfl cK.g cK.k bK .nil pass0 (pa_cons (pv 0) (pa_cons (pv 4) pa_nil))) (pv 3) (nomark _))))
            (fun _ _ _ _ _ => by exact (pv 4))) (pe_lst pa_nil) (nomark _)))))), ?_⟩
    refine ⟨_, rfl, _, rfl, sm, x, t, r, rfl, at_, g, hx, o1, fun H1 kk s1 hkn hk => ?_⟩
    have at1 := at_.fz (Fz.of_same s1)
    obtain ⟨o, a1, a2, a3, h0, hod, T1, T2, T3⟩ := at1
    refine ⟨_, rfl, sm, _, 3, .ref a3, rfl, rfl, .inl (.inr ⟨o, h0⟩), rfl, Nat.zero_le _, fun tp ot ht hot => ?_⟩
    have s2 : Same H1 (upd H1 tp (.frz ot (.tup []))) := same_upd ht
    have et : upd H1 tp (.frz ot (.tup [])) tp = some (.frz ot (.tup [])) := upd_same
    generalize upd H1 tp (.frz ot (.tup [])) = H2 at s2 et ⊢
    have pks : PyData.plainAll (t.ks.map PyData.str) = true := by
      have : ∀ ss : List Str, PyData.plainAll (ss.map PyData.str) = true := by
        intro ss
        induction ss with
        | nil => rfl
        | cons x r ih =>
          show (true && PyData.plainAll (r.map PyData.str)) = true
          rw [ih]
          rfl
      exact this t.ks
    refine ⟨.tuple (t.ks.map PyData.str), .tuple [], .tup (T3.same s2).sq (dpStrs K _ t.ks), .tup (.inl (.inr ⟨ot, et⟩)) .nil, pks, rfl, ?_, _, rfl, ?_⟩
    · simp only [PyData.depth, depthStrs]
      decide
    have ev : PyData.eqv (.tuple (t.ks.map PyData.str)) (.tuple []) = decide (t.ks = []) := eqvStrs t.ks []
    show if (!PyData.eqv (.tuple (t.ks.map PyData.str)) (.tuple [])) = true then _ else _
    rw [ev]
    have s12 := s1.trans s2
    have any_ : rs.any (clashR t r) = (decide (t.ks ≠ []) && rs.any fun o => decide (keyC t o = keyC t r)) := by
      have : ∀ l : List Row, (∀ o ∈ l, Row.ok t o) → l.any (clashR t r) = (decide (t.ks ≠ []) && l.any fun o => decide (keyC t o = keyC t r)) := by
        intro l
        induction l with
        | nil => intro _; rw [List.any_nil, List.any_nil, Bool.and_false]
        | cons a l ih =>
          intro h
          rw [List.any_cons, List.any_cons, ih fun o m => h o (List.mem_cons_of_mem _ m), ← keyC_clash g o1 (h a List.mem_cons_self)]
          cases decide (t.ks ≠ []) <;> rfl
      exact this rs o2
    rw [any_] at k
    by_cases en : t.ks = []
    · rw [decide_eq_true en]
      refine iteF ?_
      rw [decide_eq_false (fun z => z en), Bool.false_and] at k
      exact k H2 s12
    rw [decide_eq_false en]
    refine iteT ?_
    rw [decide_eq_true en, Bool.true_and] at k
    have hq2 := s12.seq hq
    have rs2 := RowsAt.keep (Fz.of_same s12) hrs
    have hk2 := s2 _ _ hk
    refine ⟨_, rfl, q, rfl, ⟨_, hq2⟩, fun D hD => ?_⟩
    refine lc_list (K := K) (a := q) (xs := ws) (fun i H' => Same H2 H' ∧ ∃ zs, H' D = some (.lst zs) ∧ RowsAt H2 zs ((rs.take i).filter fun o => decide (keyC t o = keyC t r)) ∧ zs.length ≤ i) ⟨same_upd hD, [], upd_same, .nil, Nat.le_refl _⟩ (fun i H' _ z => z.1.seq hq2) ?_ ?_
    · rintro i y H3 hi ⟨s3, zs, e3, z3, lz⟩
      refine ⟨rfl, ?_⟩
      obtain ⟨o', eo, ho⟩ := each_get rs2 hi
      have mem := List.mem_of_getElem? eo
      have li : i < ws.length := (List.getElem?_eq_some_iff.mp hi).1
      have lw : ws.length = rs.length := hrs.length
      have s13 := s12.trans s3
      refine ⟨_, rfl, _, rfl, sm, y, t, o', rfl, at_.fz (Fz.of_same s13), g, ho.keep (Fz.of_same s3), o2 o' mem, fun H4 k4 s4 hn4 hk4 => ?_⟩
      have hk' := s4 _ _ (s3 _ _ hk2)
      refine ⟨_, rfl, .list ((keyC t o').map Cell.d), .list ((keyC t r).map Cell.d), .lst (SqL.of hk4) (cellsDp _), .lst (SqL.of hk') (cellsDp _), cells_plain _, cells_plain _, ?_, _, rfl, ?_⟩
      · simp only [PyData.depth, cells_depth]
        decide
      have e2 : PyData.eqv (.list ((keyC t o').map Cell.d)) (.list ((keyC t r).map Cell.d)) = decide (keyC t o' = keyC t r) := cells_eqv _ _
      show if PyData.eqv (.list ((keyC t o').map Cell.d)) (.list ((keyC t r).map Cell.d)) = true then _ else _
      rw [e2]
      have st := filter_next (p := fun o => decide (keyC t o = keyC t r)) eo
      have s24 := s3.trans s4
      by_cases e : decide (keyC t o' = keyC t r) = true
      · rw [e]
        refine iteT ⟨_, rfl, zs, s4 _ _ e3, by omega, fun b u eu => ?_, zs ++ [y], upd_same, ?_, ?_⟩
        · rw [upd_ne (ne_of_none eu hD)]
          exact s24 b u eu
        · rw [st, if_pos e]
          exact each_append z3 (.cons ho .nil)
        · rw [List.length_append]
          show zs.length + 1 ≤ i + 1
          omega
      · rw [Bool.eq_false_iff.mpr e]
        refine iteF ⟨s24, zs, s4 _ _ e3, ?_, by omega⟩
        rw [st, if_neg e]
        exact z3
    · rintro H3 ⟨s3, zs, e3, z3, lz⟩
      rw [hrs.length, List.take_length] at z3
      refine ⟨by show 0 ≤ sizeLine; omega, fun q2 hq2' => ?_⟩
      have s4 := same_upd (o := .lst []) hq2'
      have eq2 : upd H3 q2 (.lst []) q2 = some (.lst []) := upd_same
      generalize upd H3 q2 (.lst []) = H4 at s4 eq2 ⊢
      have s14 := (s12.trans s3).trans s4
      refine ⟨.list ((rs.filter fun o => decide (keyC t o = keyC t r)).map rowD), .list [], .lst (SqL.of (s4 _ _ e3)) (rows_dp (RowsAt.keep (Fz.of_same (s3.trans s4)) z3)), .lst (SqL.of eq2) .nil, rows_plain _, rfl, listD_depth _, ?_⟩
      have e5 : (!PyData.eqv (.list ((rs.filter fun o => decide (keyC t o = keyC t r)).map rowD)) (.list [])) = rs.any fun o => decide (keyC t o = keyC t r) := by
        have := rows_eqv (rs.filter fun o => decide (keyC t o = keyC t r)) []
        show (!PyData.eqvAll ((rs.filter fun o => decide (keyC t o = keyC t r)).map rowD) (List.map rowD [])) = _
        rw [this, Bool.eq_iff_iff, Bool.not_eq_true', decide_eq_false_iff_not, List.filter_eq_nil_iff, List.any_eq_true]
        constructor
        · intro h
          exact Classical.byContradiction fun n => h fun a m c => n ⟨a, m, c⟩
        · rintro ⟨a, m, c⟩ h
          exact h a m c
      show Q (.bl (!PyData.eqv (.list ((rs.filter fun o => decide (keyC t o = keyC t r)).map rowD)) (.list []))) H4
      rw [e5]
      exact k H4 s14
end
end Vm
/-! the law: what is possible -/
namespace Vm
open PySem L2
abbrev sPossL : Stmt := top 53
def delS : Str := "delete"
def repS : Str := "replace"
theorem lenV_cases {kd : Str} {n : Nat} (h : lenV kd = .int ((n + 2 : Nat) : Int)) : (kd = delS ∧ n = 1) ∨ (kd = insS ∧ n = 1) ∨ (kd = repS ∧ n = 2) := by
  unfold lenV at h
  split at h
  · rename_i e
    have := V.int.inj h
    exact .inr (.inl ⟨e, by omega⟩)
  · split at h
    · rename_i e
      have := V.int.inj h
      exact .inl ⟨e, by omega⟩
    · split at h
      · rename_i e
        have := V.int.inj h
        exact .inr (.inr ⟨e, by omega⟩)
      · cases h
theorem del_ins : ¬ delS = insS := by decide +kernel
theorem rep_ins : ¬ repS = insS := by decide +kernel
theorem rep_del : ¬ repS = delS := by decide +kernel
theorem poss_del (t : Ti) (r : Row) (rs : List Row) : possR t delS [r] rs = decide (r ∈ rs) := by
  unfold possR takenR putR
  rw [if_neg del_ins, if_neg del_ins]
  simp
theorem poss_ins (t : Ti) (r : Row) (rs : List Row) : possR t insS [r] rs = (!decide (r ∈ rs) && !rs.any (clashR t r)) := by
  have e : leftR insS [r] rs = rs := by
    unfold leftR takenR
    rw [if_pos rfl]
    simp
  unfold possR takenR putR
  rw [if_pos rfl, if_pos rfl, e]
  simp
theorem poss_rep (t : Ti) (r o : Row) (rs : List Row) : possR t repS [r, o] rs = (decide (r ∈ rs) && !decide (o ∈ rs) && !(rs.filter fun q => !decide (q = r)).any (clashR t o)) := by
  have e : leftR repS [r, o] rs = rs.filter fun q => !decide (q = r) := by
    unfold leftR takenR
    rw [if_neg rep_ins]
    simp
  unfold possR takenR putR
  rw [if_neg rep_ins, if_neg rep_ins, e]
  simp [Bool.and_assoc]
theorem nm_same {ts : List Ti} {i j : Nat} {a b : Ti} (nd : (ts.map Ti.nm).Nodup) (h1 : ts[i]? = some a) (h2 : ts[j]? = some b) (e : a.nm = b.nm) : i = j := by
  have x := first_nm nd h1
  have y := first_nm nd h2
  rw [e, y] at x
  exact (Option.some.inj x).symm
theorem at0 {a : V} {l : List V} : atI (a :: l) 0 = some a := by
  have h := atI_nat (xs := a :: l) (j := 0) (v := a) rfl
  exact h
theorem at1 {a b : V} {l : List V} : atI (a :: b :: l) 1 = some b := by
  have h := atI_nat (xs := a :: b :: l) (j := 1) (v := b) rfl
  exact h
def spPossL (K : PySem.W.Frag) : Sp := fun vs H Q _ => ∃ (w p : Addr) (ps rls : List Addr) (ts : List Ti) (rss : List (List Row)) (kd : Str) (i : Nat) (ti : Ti) (xs : List V) (us rs : List Row), vs = [.ref w, .ref p] ∧ Wl H w ps rls ts rss ∧ (ts.map Ti.nm).Nodup ∧
  SqT K H p (.str kd :: .str ti.nm :: xs) ∧ RowsAt H xs us ∧ ts[i]? = some ti ∧ rss[i]? = some rs ∧ ti.ok ∧ (∀ r ∈ us, Row.ok ti r) ∧ (∀ r ∈ rs, Row.ok ti r) ∧ rs.length ≤ 100 ∧ ts.length ≤ 3 ∧ lenV kd = .int ((us.length + 2 : Nat) : Int) ∧
  ∀ H', Same H H' → Q (.bl (possR ti kd us rs)) H'
section
variable {P : Program} {w : World} {K : PySem.W.Frag} {mg : Str → Option Value} {base : Heap} {fB : Addr}
theorem scPossL : FnScope ["_law_world_here", "_law_deed", "_law_some", "_law_rows", "_law_pair", "_law_one"] ["_law_world_here", "_law_deed"] (defScope sPossL) := ⟨rfl, rfl, rfl, by decide +kernel, rfl, by decide +kernel, by decide +kernel⟩
theorem ok_possl {f : Addr} {fd fdB : FuncData} (F : Fun K "_law_is_possible" "_law_is_possible" sPossL f fd) (cB : Calls K mg "_law_is_barred" fB) (GB : FnOk P w K mg base CX0 2 fB fdB ["_law_some", "_law_rows", "_law_row_here"] (spBarred K)) (bB : Binds K fdB ["_law_some", "_law_rows", "_law_row_here"] []) :
    FnOk P w K mg base CX0 3 f fd ["_law_world_here", "_law_deed"] (spPossL K) := by
  refine F.ok scPossL (fun vs H Q E h => ?_) (fun cdv A outer s H vs Q E hr h => ?_)
  · obtain ⟨w, p, ps, rls, ts, rss, kd, i, ti, xs, us, rs, rfl, _⟩ := h
    rfl
  · obtain ⟨w, p, ps, rls, ts, rss, kd, i, ti, xs, us, rs, rfl, wl, nd, hp, hus, et, er, g, o1, o2, few, few3, hl, k⟩ := h
    have hu : (A.deeper (PyProof.Rows.envOfC "_law_is_possible" (defScope sPossL) s.heap.objs.size f cdv)).units + 8 < cLine := by
      have := hr.units
      omega
    have big : sizeLine > 1000 := by decide
    refine ⟨_, pss_cons (ps_asg (pe_ix ix_list (pe_lc (own := [("_law_pair", 4)]) (g := gName 4) (tt := tTest (tOp rEq (tOp (rIxT K) (tOp (rIxL K) (tVar 4) (tC (.int 0))) (tC (.int 0))) (tOp (rIxT K) (tVar 1) (tC (.int 1))))) (te := tVar 4) rfl scPossL.nd (pi_list (pv 0))
            (blkOk_by (N := ["_law_world_here", "_law_deed", "_law_some", "_law_rows", "_law_pair", "_law_one"]) (sc := defScope sPossL) (by decide +kernel)) (fun _ _ _ _ _ => pg_name (i := 4) scPossL.nd rfl (Or.inl rfl))
            (fun _ _ _ _ _ => by exact (pts_one (pt_cmpR op_eq (pe_ix ix_tup (pe_ix ix_list (pv 4) pe_int (fun _ _ => rfl)) pe_int (fun _ _ => rfl)) (pe_ix ix_tup (pv 1) pe_int (fun _ _ => rfl)) (nomark _)))) (fun _ _ _ _ _ => by exact (pv 4))) pe_int (fun _ _ => rfl))
          (pg_lst rfl (pgs_cons (pg_name (i := 2) scPossL.nd rfl (Or.inl rfl)) (pgs_cons (pg_name (i := 3) scPossL.nd rfl (Or.inl rfl)) pgs_nil))))
      (pss_cons (ps_if (pt_cmpR op_eq (pe_ix ix_tup (pv 1) pe_int (fun _ _ => rfl)) pe_str (nomark _)) (pss_one (ps_ret (pe_cmpR (op_inR hu) (pe_ix ix_tup (pv 1) pe_int (fun _ _ => rfl)) (pv 3) (by rfl)))) pss_nil)
      (pss_cons (ps_if (pt_cmpR op_eq (pe_ix ix_tup (pv 1) pe_int (fun _ _ => rfl)) pe_str (nomark _)) (pss_one (ps_ret (pe_and (pe_cmpR (op_notInR hu) (pe_ix ix_tup (pv 1) pe_int (fun _ _ => rfl)) (pv 3) (by rfl))
          (pe_one (pe_not (pe_call GB hr rfl cB.g cB.k bB .nil pass0 (pa_cons (pv 2) (pa_cons (pv 3) (pa_cons (pe_ix ix_tup (pv 1) pe_int (fun _ _ => rfl)) pa_nil))))))))) pss_nil)
      (pss_cons (ps_if (PW.pt (pw_or (pt_cmpR (op_notInR hu) (pe_ix ix_tup (pv 1) pe_int (fun _ _ => rfl)) (pv 3) (by rfl)) (pw_or1 (pt_cmpR (op_inR hu) (pe_ix ix_tup (pv 1) pe_int (fun _ _ => rfl)) (pv 3) (by rfl))))) (pss_one (ps_ret pe_bl)) pss_nil)
      (pss_one (ps_ret (pe_not (pe_call GB hr rfl cB.g cB.k bB .nil pass0 (pa_cons (pv 2) (pa_cons (pe_lc (own := [("_law_one", 5)]) (g := gName 5) (tt := tTest (tOp (rEqP K true) (tVar 5) (tOp (rIxT K) (tVar 1) (tC (.int 2))))) (te := tVar 5) rfl scPossL.nd (pi_list (pv 3))
            (blkOk_by (N := ["_law_world_here", "_law_deed", "_law_some", "_law_rows", "_law_pair", "_law_one"]) (sc := defScope sPossL) (by decide +kernel)) (fun _ _ _ _ _ => pg_name (i := 5) scPossL.nd rfl (Or.inl rfl))
            (fun _ _ _ _ _ => by exact (pts_one (pt_cmpR (op_neP hu) (pv 5) (pe_ix ix_tup (pv 1) pe_int (fun _ _ => rfl)) (nomark _)))) (fun _ _ _ _ _ => by exact (pv 5))) (pa_cons (pe_ix ix_tup (pv 1) pe_int (fun _ _ => rfl)) pa_nil)))))))))), ?_⟩
    have ilt : i < ts.length := (List.getElem?_eq_some_iff.mp et).1
    obtain ⟨p0, rl, ti', rs', ep, erl, et', er', sm, vs, hp0, ha, hrl, hrs⟩ := wl.at ilt
    rw [et] at et'
    obtain rfl := Option.some.inj et'
    rw [er] at er'
    obtain rfl := Option.some.inj er'
    refine ⟨_, rfl, w, rfl, ⟨_, SqL.of wl.hw⟩, fun D hD => ?_⟩
    refine lc_list (K := K) (a := w) (xs := ps.map V.ref) (fun j H' => Same H H' ∧ H' D = some (.lst (if i < j then [V.ref p0] else []))) ⟨same_upd hD, by rw [if_neg (Nat.not_lt_zero _)]; exact upd_same⟩ (fun j H' _ z => SqL.of (z.1 _ _ wl.hw)) ?_ ?_
    · rintro j y H2 hj ⟨s2, e2⟩
      have jlt : j < ts.length := by
        have := (List.getElem?_eq_some_iff.mp hj).1
        rw [List.length_map, wl.lp] at this
        exact this
      obtain ⟨pj, rlj, tj, rsj, f1, _, f3, _, smj, vsj, h0, ⟨oj, b1, b2, b3, hsj, hodj, _⟩, _, _⟩ := wl.at jlt
      rw [List.getElem?_map, f1] at hj
      obtain rfl := Option.some.inj hj
      refine ⟨rfl, ?_⟩
      refine ⟨_, rfl, pj, _, 0, .ref smj, rfl, rfl, SqL.of (s2 _ _ h0), rfl, smj, _, 0, .str tj.nm, rfl, rfl, .inl (.inr ⟨oj, s2 _ _ hsj⟩), rfl, _, rfl, p, _, 1, .str ti.nm, rfl, rfl, sameT s2 hp, at1, rfl, _, rfl, ?_⟩
      have ed : decide (V.str tj.nm = V.str ti.nm) = decide (j = i) := decide_eq_decide.mpr ⟨fun e => nm_same nd f3 et (V.str.inj e), fun e => by
        rw [e, et] at f3
        obtain rfl := Option.some.inj f3
        rfl⟩
      rw [ed]
      by_cases e : j = i
      · rw [decide_eq_true e]
        subst e
        rw [f1] at ep
        obtain rfl := Option.some.inj ep
        rw [if_neg (Nat.lt_irrefl _)] at e2
        refine iteT ⟨_, rfl, _, e2, by show 0 < sizeLine; omega, fun b u eu => ?_, ?_⟩
        · rw [upd_ne (ne_of_none eu hD)]
          exact s2 b u eu
        · rw [upd_same, if_pos (Nat.lt_succ_self _)]
          rfl
      · rw [decide_eq_false e]
        refine iteF ⟨s2, ?_⟩
        rw [e2]
        by_cases q : i < j
        · rw [if_pos q, if_pos (by omega)]
        · rw [if_neg q, if_neg (by omega)]
    rintro H2 ⟨s2, e2⟩
    rw [List.length_map, wl.lp, if_pos ilt] at e2
    refine ⟨D, _, 0, .ref p0, rfl, rfl, SqL.of e2, rfl, p0, [.ref sm, .ref rl], rfl, SqL.of (s2 _ _ hp0), rfl, _, _, rfl, _, _, rfl, rfl, ?_⟩
    have hp2 := sameT s2 hp
    have hus2 := RowsAt.keep (Fz.of_same s2) hus
    have hrs2 := RowsAt.keep (Fz.of_same s2) hrs
    have hrl2 : SqL K H2 rl vs := SqL.of (s2 _ _ hrl)
    have ha2 := ha.fz (Fz.of_same s2)
    -- delete
    refine ⟨_, rfl, p, _, 0, .str kd, rfl, rfl, hp2, at0, rfl, _, rfl, ?_⟩
    show if decide (V.str kd = V.str delS) = true then _ else _
    rcases lenV_cases hl with ⟨e, ln⟩ | ⟨e, ln⟩ | ⟨e, ln⟩ <;> subst e
    · rw [decide_eq_true rfl]
      obtain ⟨r, rfl⟩ : ∃ r, us = [r] := List.length_eq_one_iff.mp ln
      obtain ⟨x, rfl⟩ : ∃ x, xs = [x] := List.length_eq_one_iff.mp (by rw [hus.length]; rfl)
      cases hus2 with
      | cons hx _ =>
        refine iteT ⟨_, rfl, p, _, 2, x, rfl, rfl, hp2, rfl, _, rfl, r, rl, _, _, hx, rfl, .inr hrl2, hrs2, ?_⟩
        show Q (.bl (decide (r ∈ rs))) H2
        rw [← poss_del ti]
        exact k H2 s2
    · rw [decide_eq_false fun z => del_ins (V.str.inj z).symm]
      obtain ⟨r, rfl⟩ : ∃ r, us = [r] := List.length_eq_one_iff.mp ln
      obtain ⟨x, rfl⟩ : ∃ x, xs = [x] := List.length_eq_one_iff.mp (by rw [hus.length]; rfl)
      refine iteF ?_
      refine ⟨_, rfl, p, _, 0, .str insS, rfl, rfl, hp2, at0, rfl, _, rfl, ?_⟩
      show if decide (V.str insS = V.str insS) = true then _ else _
      rw [decide_eq_true rfl]
      cases hus2 with
      | cons hx _ =>
        refine iteT ⟨_, rfl, p, _, 2, x, rfl, rfl, hp2, rfl, _, rfl, r, rl, _, _, hx, rfl, .inr hrl2, hrs2, _, rfl, ?_⟩
        show if (!decide (r ∈ rs)) = true then _ else _
        rw [poss_ins] at k
        by_cases e : r ∈ rs
        · rw [decide_eq_true e] at k ⊢
          exact iteF (k H2 s2)
        · rw [decide_eq_false e] at k ⊢
          refine iteT ⟨_, rfl, _, rfl, _, rfl, p, _, 2, x, rfl, rfl, hp2, rfl, sm, rl, x, ti, r, vs, rs, rfl, ha2, g, hx, hrl2, hrs2, o1 r List.mem_cons_self, o2, few, fun H3 s3 => ⟨_, rfl, k H3 (s2.trans s3)⟩⟩
    · rw [decide_eq_false fun z => rep_del (V.str.inj z)]
      obtain ⟨r, o, rfl⟩ := two_of ln
      obtain ⟨x, y, rfl⟩ := two_of (xs := xs) (by rw [hus.length]; rfl)
      refine iteF ?_
      refine ⟨_, rfl, p, _, 0, .str repS, rfl, rfl, hp2, at0, rfl, _, rfl, ?_⟩
      show if decide (V.str repS = V.str insS) = true then _ else _
      rw [decide_eq_false fun z => rep_ins (V.str.inj z)]
      refine iteF ?_
      rw [poss_rep] at k
      cases hus2 with
      | cons hx t2 =>
        cases t2 with
        | cons hy _ =>
          refine ⟨_, rfl, p, _, 2, x, rfl, rfl, hp2, rfl, _, rfl, r, rl, _, _, hx, rfl, .inr hrl2, hrs2, _, rfl, ?_⟩
          show if (!decide (r ∈ rs)) = true then _ else _
          by_cases e : r ∈ rs
          · rw [decide_eq_true e] at k ⊢
            refine iteF ?_
            refine ⟨_, rfl, p, _, 3, y, rfl, rfl, hp2, rfl, _, rfl, o, rl, _, _, hy, rfl, .inr hrl2, hrs2, _, rfl, ?_⟩
            show if (decide (o ∈ rs)) = true then _ else _
            by_cases e' : o ∈ rs
            · rw [decide_eq_true e'] at k ⊢
              exact iteT (k H2 s2)
            · rw [decide_eq_false e'] at k ⊢
              refine iteF ?_
              refine ⟨_, rfl, _, rfl, rl, rfl, ⟨_, hrl2⟩, fun D2 hD2 => ?_⟩
              refine lc_list (K := K) (a := rl) (xs := vs) (fun i H' => Same H2 H' ∧ ∃ zs, H' D2 = some (.lst zs) ∧ RowsAt H2 zs ((rs.take i).filter fun q => !decide (q = r)) ∧ zs.length ≤ i) ⟨same_upd hD2, [], upd_same, .nil, Nat.le_refl _⟩ (fun i H' _ z => z.1.seq hrl2) ?_ ?_
              · rintro j v H3 hi ⟨s3, zs, e3, z3, lz⟩
                refine ⟨rfl, ?_⟩
                obtain ⟨o', eo, ho⟩ := each_get hrs2 hi
                have li : j < vs.length := (List.getElem?_eq_some_iff.mp hi).1
                have lw : vs.length = rs.length := hrs2.length
                refine ⟨_, rfl, _, rfl, p, _, 2, x, rfl, rfl, sameT s3 hp2, rfl, rowD o', rowD r, (ho.keep (Fz.of_same s3)).dp, (hx.keep (Fz.of_same s3)).dp, row_plain _, row_plain _, by rw [row_depth]; decide, _, rfl, ?_⟩
                show if (!PyData.eqv (rowD o') (rowD r)) = true then _ else _
                rw [row_eqv]
                have st := filter_next (p := fun q => !decide (q = r)) eo
                by_cases e : (!decide (o' = r)) = true
                · rw [e]
                  refine iteT ⟨_, rfl, zs, e3, by omega, fun b u eu => ?_, zs ++ [v], upd_same, ?_, ?_⟩
                  · rw [upd_ne (ne_of_none eu hD2)]
                    exact s3 b u eu
                  · rw [st, if_pos e]
                    exact each_append z3 (.cons ho .nil)
                  · rw [List.length_append]
                    show zs.length + 1 ≤ j + 1
                    omega
                · rw [Bool.eq_false_iff.mpr e]
                  refine iteF ⟨s3, zs, e3, ?_, by omega⟩
                  rw [st, if_neg e]
                  exact z3
              · rintro H3 ⟨s3, zs, e3, z3, lz⟩
                rw [hrs2.length, List.take_length] at z3
                have fl : (rs.filter fun q => !decide (q = r)).length ≤ rs.length := List.length_filter_le _ _
                refine ⟨_, rfl, p, _, 3, y, rfl, rfl, sameT s3 hp2, rfl, sm, D2, y, ti, o, zs, _, rfl, ha2.fz (Fz.of_same s3), g, hy.keep (Fz.of_same s3), SqL.of e3, RowsAt.keep (Fz.of_same s3) z3, o1 o (List.mem_cons_of_mem _ List.mem_cons_self), fun q m => o2 q (List.mem_filter.mp m).1, by omega, fun H4 s4 => ⟨_, rfl, k H4 ((s2.trans s3).trans s4)⟩⟩
          · rw [decide_eq_false e] at k ⊢
            exact iteT (iteT (k H2 s2))
end
end Vm
/-! the law: a change -/
namespace Vm
open PySem L2
abbrev sChangeL : Stmt := top 54
/-- a change of a table, made here -/
def DeedAt (H : Hp) (p : Addr) (kd nm : Str) (us : List Row) : Prop := ∃ (o : Obj) (xs : List V), H p = some (.frz o (.tup (.str kd :: .str nm :: xs))) ∧ o.dict = none ∧ RowsAt H xs us
theorem DeedAt.fz {H H' : Hp} {p : Addr} {kd nm : Str} {us : List Row} (h : DeedAt H p kd nm us) (k : Fz H H') : DeedAt H' p kd nm us := let ⟨o, xs, e, d, r⟩ := h; ⟨o, xs, k _ _ _ e, d, RowsAt.keep k r⟩
/-- the rows that the law keeps fit -/
def RkFit (N : Nat) (ts : List Ti) (rss : List (List Row)) : Prop := ∀ (i : Nat) (ti : Ti) (rs : List Row), ts[i]? = some ti → rss[i]? = some rs → (∀ r ∈ rs, Rk ti r) ∧ rs.length ≤ N
theorem lenV_rep : lenV repS = .int 4 := by decide +kernel
def tWay : TE := fun σ H Q => ∃ (n : Int) (a l : Addr) (ms : List Int) (z b : Int), σ[4]? = some (some (.int n)) ∧ σ[0]? = some (some (.ref a)) ∧ Src H a l ms z b ∧ 0 ≤ b ∧ b < 900000 ∧ ∀ H' ms' way, But a l H H' → Src H' a l ms' z (b + 1) → 0 ≤ way → way < 6 → Q (.int way) H'
def spChangeL : Sp := fun vs H Q _ => ∃ (N : Nat) (s l w : Addr) (ms : List Int) (z b : Int) (ps rls : List Addr) (ts : List Ti) (rss : List (List Row)), vs = [.ref s, .ref w] ∧ Src H s l ms z b ∧ 0 ≤ b ∧ b < 600000 ∧ Wl H w ps rls ts rss ∧ Wn ts ∧ (∀ c ∈ w :: (ps ++ rls), Off s l c) ∧ RkFit N ts rss ∧ N ≤ 90 ∧
  ∀ (H' : Hp) (ms' : List Int) (b' : Int) (p : Addr) (kd : Str) (i : Nat) (ti : Ti) (us : List Row), But s l H H' → Src H' s l ms' z b' → b ≤ b' → b' ≤ b + 30 → DeedAt H' p kd ti.nm us → H p = none → ts[i]? = some ti → (∀ r ∈ us, Rk ti r) → lenV kd = .int ((us.length + 2 : Nat) : Int) → Q (.ref p) H'
section
variable {P : Program} {w : World} {K : PySem.W.Frag} {mg : Str → Option Value} {base : Heap} {fD fP fN : Addr}
theorem scChangeL : FnScope ["_law_source_here", "_law_world_here", "_law_some", "_law_rows", "_law_many", "_law_pair", "_law_way"] ["_law_source_here", "_law_world_here"] (defScope sChangeL) := ⟨rfl, rfl, rfl, by decide +kernel, rfl, by decide +kernel, by decide +kernel⟩
theorem ok_changel {f : Addr} {fd fdD fdP fdN : FuncData} (F : Fun K "_law_change" "_law_change" sChangeL f fd) (T : TxtL K mg fD fP) (sum : mg "sum" = none) (GD : FnOk P w K mg base CX0 1 fD fdD ["_law_source_here", "_law_many"] spDraw) (bD : Binds K fdD ["_law_source_here", "_law_many"] [])
    (GP : FnOk P w K mg base CX0 2 fP fdP ["_law_source_here", "_law_items"] (spPick K)) (bP : Binds K fdP ["_law_source_here", "_law_items"] [])
    (cN : Calls K mg "_law_near" fN) (GN : FnOk P w K mg base CX0 4 fN fdN ["_law_source_here", "_law_some", "_law_rows"] spNear) (bN : Binds K fdN ["_law_source_here", "_law_some", "_law_rows"] []) :
    FnOk P w K mg base CX0 5 f fd ["_law_source_here", "_law_world_here"] spChangeL := by
  refine F.ok scChangeL (fun vs H Q E h => ?_) (fun cdv A outer s H vs Q E hr h => ?_)
  · obtain ⟨N, s, l, w, ms, z, b, ps, rls, ts, rss, rfl, _⟩ := h
    rfl
  · obtain ⟨N, a, l, w, ms, z, b, ps, rls, ts, rss, rfl, hs, b0, b1, wl, wn, off, fit, hN, k⟩ := h
    have hr1 : Room 1 _ := hr.mono (by decide)
    have hr2 : Room 2 _ := hr.mono (by decide)
    have big : sizeLine > 1000 := by decide
    refine ⟨_, pss_cons (ps_asg (pe_call GP hr2 rfl T.gP T.kP bP .nil pass0 (pa_cons (pv 0) (pa_cons (pv 1) pa_nil))) (pg_lst rfl (pgs_cons (pg_name (i := 2) scChangeL.nd rfl (Or.inl rfl)) (pgs_cons (pg_name (i := 3) scChangeL.nd rfl (Or.inl rfl)) pgs_nil))))
      (pss_cons (ps_set (i := 4) scChangeL.nd rfl (Or.inl rfl) (pe_callB (cr_sum rfl) (by rfl) sum (by decide +kernel) (pa_cons (pe_lc (own := [("_law_pair", 5)]) (g := gName 5) (tt := tYes) (te := tCB (rLenS K) (tCons (tOp (rIxL K) (tVar 5) (tC (.int 1))) tNil)) rfl scChangeL.nd (pi_list (pv 1))
            (blkOk_by (N := ["_law_source_here", "_law_world_here", "_law_some", "_law_rows", "_law_many", "_law_pair", "_law_way"]) (sc := defScope sChangeL) (by decide +kernel)) (fun _ _ _ _ _ => pg_name (i := 5) scChangeL.nd rfl (Or.inl rfl)) (fun _ _ _ _ _ => pts_nil)
            (fun _ _ _ _ _ => by exact (pe_callB call_len_seq (by rfl) T.len (by decide +kernel) (pa_cons (pe_ix ix_list (pv 5) pe_int (fun _ _ => rfl)) pa_nil)))) pa_nil)))
      (pss_cons (ps_set (i := 6) scChangeL.nd rfl (Or.inl rfl) (PE.wk (t := tWay) (pe_ifExp (pt_cmpR op_lt (pv 4) pe_int (nomark _)) (pe_call GD hr1 rfl T.gD T.kD bD .nil pass0 (pa_cons (pv 0) (pa_cons pe_int pa_nil)))
            (pe_op op_add pe_int (pe_call GD hr1 rfl T.gD T.kD bD .nil pass0 (pa_cons (pv 0) (pa_cons pe_int pa_nil))))) (fun σ H Q h => ?_)))
      (pss_cons (ps_if (pt_cmpR op_lt (pv 6) pe_int (nomark _)) (pss_one (ps_ret (pe_tupF (pa_cons pe_str (pa_cons (pe_ix ix_tup (pv 2) pe_int (fun _ _ => rfl)) (pa_cons (pe_call GN hr rfl cN.g cN.k bN .nil pass0 (pa_cons (pv 0) (pa_cons (pv 2) (pa_cons (pv 3) pa_nil)))) pa_nil)))))) pss_nil)
      (pss_cons (ps_if (pt_cmpR op_eq (pv 6) pe_int (nomark _)) (pss_one (ps_ret (pe_tupF (pa_cons pe_str (pa_cons (pe_ix ix_tup (pv 2) pe_int (fun _ _ => rfl)) (pa_cons (pe_call GN hr rfl cN.g cN.k bN .nil pass0 (pa_cons (pv 0) (pa_cons (pv 2) (pa_cons (pv 3) pa_nil)))) pa_nil)))))) pss_nil)
      (pss_one (ps_ret (pe_tupF (pa_cons pe_str (pa_cons (pe_ix ix_tup (pv 2) pe_int (fun _ _ => rfl)) (pa_cons (pe_call GN hr rfl cN.g cN.k bN .nil pass0 (pa_cons (pv 0) (pa_cons (pv 2) (pa_cons (pv 3) pa_nil))))
        (pa_cons (pe_call GN hr rfl cN.g cN.k bN .nil pass0 (pa_cons (pv 0) (pa_cons (pv 2) (pa_cons (pv 3) pa_nil)))) pa_nil))))))))))), ?_⟩
    · obtain ⟨n, a, l, ms, z, b, e4, e0, hs, b0, b1, k⟩ := h
      refine ⟨_, e4, _, _, rfl, rfl, _, rfl, ?_⟩
      show if decide (n < 12) = true then _ else _
      by_cases c : decide (n < 12) = true
      · rw [if_pos c]
        exact ⟨_, e0, a, l, ms, z, b, 6, rfl, hs, by decide, by decide, b0, by omega, fun H' ms' r k1 h1 r0 r1 => k H' ms' r k1 h1 r0 r1⟩
      · rw [if_neg c]
        exact ⟨_, e0, a, l, ms, z, b, 3, rfl, hs, by decide, by decide, b0, by omega, fun H' ms' r k1 h1 r0 r1 => ⟨_, _, rfl, rfl, k H' ms' (3 + r) k1 h1 (by omega) (by omega)⟩⟩
    have offw := off w List.mem_cons_self
    have lts : ps.length ≤ 3 := by
      rw [wl.lp]
      exact wn.few
    have lt1 : 0 < ps.length := by
      rw [wl.lp]
      exact wn.one
    refine ⟨_, rfl, _, rfl, a, l, .ref w, ms, z, b, rfl, hs, b0, by omega, .inl ⟨w, ps.map V.ref, rfl, fun H' kk => SqL.of (kk _ _ offw.1 offw.2 wl.hw), by rw [List.length_map]; exact lt1, by rw [List.length_map]; omega, fun H1 ms1 v k1 hs1 hv => ?_⟩⟩
    obtain ⟨p0, hp0, rfl⟩ := List.mem_map.mp hv
    obtain ⟨i, hi⟩ := List.mem_iff_getElem?.mp hp0
    have wl1 := wl.keep (fun c m o e => k1 _ _ (off c m).1 (off c m).2 e) (k1.fz hs)
    have ilt : i < ts.length := by
      rw [← wl.lp]
      exact (List.getElem?_eq_some_iff.mp hi).1
    obtain ⟨p0', rl, ti, rs, ep, erl, et, er, sm, vs, hp, ha, hrl, hrs⟩ := wl1.at ilt
    rw [hi] at ep
    obtain rfl := Option.some.inj ep
    refine ⟨p0, [.ref sm, .ref rl], rfl, SqL.of hp, rfl, _, _, rfl, _, _, rfl, rfl, ?_⟩
    -- how many rows there are
    refine ⟨_, rfl, w, rfl, ⟨_, SqL.of wl1.hw⟩, fun D hD => ?_⟩
    refine lc_list (K := K) (a := w) (xs := ps.map V.ref) (fun j H' => Same H1 H' ∧ ∃ ns : List Int, H' D = some (.lst (ns.map V.int)) ∧ ns.length = j) ⟨same_upd hD, [], upd_same, rfl⟩ (fun j H' _ z => SqL.of (z.1 _ _ wl1.hw)) ?_ ?_
    · rintro j y H2 hj ⟨s2, ns, e2, ln⟩
      have jlt : j < ts.length := by
        have := (List.getElem?_eq_some_iff.mp hj).1
        rw [List.length_map, wl.lp] at this
        exact this
      obtain ⟨pj, rlj, tj, rsj, f1, _, f3, _, smj, vsj, h0, _, h2, _⟩ := wl1.at jlt
      rw [List.getElem?_map, f1] at hj
      obtain rfl := Option.some.inj hj
      refine ⟨rfl, ?_⟩
      dsimp only [tYes]
      rw [if_pos rfl]
      refine ⟨_, rfl, pj, _, 1, .ref rlj, rfl, rfl, SqL.of (s2 _ _ h0), rfl, rlj, vsj, rfl, .inl (SqL.of (s2 _ _ h2)), _, e2, ?_, fun c u e => ?_, ns ++ [(vsj.length : Int)], ?_, by rw [List.length_append, ln]; rfl⟩
      · rw [List.length_map]
        have := wn.few
        omega
      · rw [upd_ne (ne_of_none e hD)]
        exact s2 c u e
      · rw [upd_same, List.map_append]
        rfl
    rintro H2 ⟨s2, ns, e2, _⟩
    refine ⟨D, ns, rfl, SqL.of e2, ?_⟩
    have hs2 := hs1.but s2
    refine ⟨ns.sum, a, l, ms1, z, b + 1, rfl, rfl, hs2, by omega, by omega, fun H3 ms3 way k3 hs3 w0 w6 => ?_⟩
    have k13 := (But.of_same (s := a) (l := l) s2).trans k3
    have k03 := k1.trans k13
    have tok := wn.ok ti (List.mem_of_getElem? et)
    have ha3 := ha.fz (k13.fz hs1)
    have orl := off rl (List.mem_cons_of_mem _ (List.mem_append_right _ (List.mem_of_getElem? erl)))
    have hrl3 := k13 _ _ orl.1 orl.2 hrl
    have hrs3 := RowsAt.keep (k13.fz hs1) hrs
    obtain ⟨fr, fl⟩ := fit i ti rs et er
    have near : ∀ {H4 : Hp} {ms4 : List Int} {b4 : Int} {Q' : VK}, But a l H3 H4 → Src H4 a l ms4 z b4 → 0 ≤ b4 → b4 < 700000 →
        (∀ (H' : Hp) (ms' : List Int) (b' : Int) (v : V) (r : Row), But a l H4 H' → Src H' a l ms' z b' → b4 ≤ b' → b' ≤ b4 + 10 → RwAt H' v r → Rk ti r → Q' v H') → spNear [.ref a, .ref sm, .ref rl] H4 Q' E0 :=
      fun {H4 ms4 b4 Q'} k4 hs4 c0 c1 q => ⟨a, l, sm, rl, ms4, z, b4, ti, vs, rs, rfl, hs4, c0, c1, ha3.fz (k4.fz hs3), tok.g, k4 _ _ orl.1 orl.2 hrl3, orl, RowsAt.keep (k4.fz hs3) hrs3, fr, by omega, q⟩
    have nm : ∀ {H4 : Hp}, But a l H3 H4 → ∃ c1 c2 c3 : Addr, SqT K H4 sm [.str ti.nm, .ref c1, .ref c2, .ref c3] := fun {H4} k4 => by
      obtain ⟨o, c1, c2, c3, h0, _⟩ := ha3.fz (k4.fz hs3)
      exact ⟨c1, c2, c3, .inl (.inr ⟨o, h0⟩)⟩
    obtain ⟨c1, c2, c3, hsm⟩ := nm (fun _ _ _ _ e => e)
    have one : ∀ (kd : Str), lenV kd = .int 3 → ∀ (H4 : Hp) (ms4 : List Int) (b4 : Int) (v : V) (r : Row), But a l H3 H4 → Src H4 a l ms4 z b4 → b + 1 + 1 ≤ b4 → b4 ≤ b + 1 + 1 + 10 → RwAt H4 v r → Rk ti r →
        ([V.str kd, V.str ti.nm, v] : List V).length ≤ sizeLine ∧ New H4 [V.str kd, .str ti.nm, v] Q := fun kd hk H4 ms4 b4 v r k4 hs4 d1 d2 hv rk => ⟨by show 3 ≤ sizeLine; omega, fun q o hq ho => by
          have s5 := same_upd (o := .frz o (.tup [V.str kd, .str ti.nm, v])) hq
          have k04 := k03.trans k4
          exact k _ ms4 b4 q kd i ti [r] (k04.trans (.of_same s5)) (hs4.but s5) (by omega) (by omega) ⟨o, [v], upd_same, ho, .cons (hv.keep (Fz.of_same s5)) .nil⟩ (k04.back hs4 hq) et (fun x m => by rw [List.mem_singleton.mp m]; exact rk) hk⟩
    refine ⟨_, rfl, _, _, rfl, rfl, _, rfl, ?_⟩
    refine ite2 (fun e => ?_) (fun e => ?_)
    · exact ⟨_, rfl, sm, _, 0, .str ti.nm, rfl, rfl, hsm, rfl, _, rfl, _, rfl, _, rfl, near (fun _ _ _ _ e => e) hs3 (by omega) (by omega) (one insS (by decide +kernel))⟩
    refine ⟨_, rfl, rfl, _, rfl, ?_⟩
    refine ite2 (fun e => ?_) (fun e => ?_)
    · exact ⟨_, rfl, sm, _, 0, .str ti.nm, rfl, rfl, hsm, rfl, _, rfl, _, rfl, _, rfl, near (fun _ _ _ _ e => e) hs3 (by omega) (by omega) (one delS (by decide +kernel))⟩
    refine ⟨_, rfl, sm, _, 0, .str ti.nm, rfl, rfl, hsm, rfl, _, rfl, _, rfl, _, rfl, near (fun _ _ _ _ e => e) hs3 (by omega) (by omega) fun H4 ms4 b4 v r k4 hs4 d1 d2 hv rk => ?_⟩
    refine ⟨_, rfl, _, rfl, _, rfl, near k4 hs4 (by omega) (by omega) fun H5 ms5 b5 v' r' k5 hs5 d3 d4 hv' rk' => ⟨by show 4 ≤ sizeLine; omega, fun q o hq ho => ?_⟩⟩
    have s6 := same_upd (o := .frz o (.tup [V.str repS, .str ti.nm, v, v'])) hq
    have k05 := (k03.trans k4).trans k5
    refine k _ ms5 b5 q repS i ti [r, r'] (k05.trans (.of_same s6)) (hs5.but s6) (by omega) (by omega) ⟨o, [v, v'], upd_same, ho, .cons ((hv.keep (k5.fz hs4)).keep (Fz.of_same s6)) (.cons (hv'.keep (Fz.of_same s6)) .nil)⟩ (k05.back hs5 hq) et (fun x m => ?_) lenV_rep
    rcases List.mem_cons.mp m with m | m
    · rw [m]; exact rk
    · rw [List.mem_singleton.mp m]; exact rk'
end
end Vm
/-! the law: following a change; what the rows are -/
namespace Vm
open PySem L2
abbrev sFollow : Stmt := top 55
abbrev sTold : Stmt := top 56
/-- the law's rows behind a change -/
def followR (kd : Str) (us rs : List Row) : List Row :=
  if kd = insS then rs ++ us else if kd = delS then rs.erase (us.getD 0 []) else rs.erase (us.getD 0 []) ++ us.drop 1
def BR (rls : List Addr) (H H' : Hp) : Prop := ∀ b o, b ∉ rls → H b = some o → H' b = some o
theorem BR.trans {rls : List Addr} {H H1 H2 : Hp} (a : BR rls H H1) (b : BR rls H1 H2) : BR rls H H2 := fun c o n e => b c o n (a c o n e)
theorem BR.of_same {rls : List Addr} {H H' : Hp} (k : Same H H') : BR rls H H' := fun c o _ e => k c o e
/-- other rows of one table -/
theorem Wl.put {H : Hp} {w : Addr} {ps rls : List Addr} {ts : List Ti} {rss : List (List Row)} {i : Nat} {rl : Addr} {vs' : List V} {rs' : List Row} (h : Wl H w ps rls ts rss) (e : rls[i]? = some rl) (r : RowsAt H vs' rs') :
    Wl (upd H rl (.lst vs')) w ps rls ts (rss.set i rs') ∧ Fz H (upd H rl (.lst vs')) ∧ BR rls H (upd H rl (.lst vs')) := by
  have mem := List.mem_of_getElem? e
  obtain ⟨vs, hrl⟩ := h.there rl (List.mem_cons_of_mem _ (List.mem_append_right _ mem))
  have fz : Fz H (upd H rl (.lst vs')) := fun b o xs q => by
    rw [upd_ne fun z => by rw [z, hrl] at q; cases q]
    exact q
  have nd := h.nd
  rw [List.nodup_cons, List.nodup_append] at nd
  obtain ⟨n1, n2, n3, n4⟩ := nd
  have ilt : i < rls.length := (List.getElem?_eq_some_iff.mp e).1
  refine ⟨⟨?_, h.lp, h.lr, by rw [List.length_set]; exact h.ls, ?_, h.nd⟩, fz, fun b o n q => by rw [upd_ne fun z => n (by rw [z]; exact mem)]; exact q⟩
  · rw [upd_ne fun z => n1 (by rw [z]; exact List.mem_append_right _ mem)]
    exact h.hw
  · intro j p rlj t rs e1 e2 e3 e4
    have np : p ≠ rl := n4 p (List.mem_of_getElem? e1) rl mem
    rw [List.getElem?_set] at e4
    by_cases q : i = j
    · subst q
      rw [if_pos rfl, if_pos (by rw [h.ls, ← h.lr]; exact ilt)] at e4
      obtain rfl := Option.some.inj e4
      rw [e] at e2
      obtain rfl := Option.some.inj e2
      have lt : i < ts.length := (List.getElem?_eq_some_iff.mp e3).1
      obtain ⟨p', rl', t', rs0, f1, f2, f3, f4, sm, vs0, a1, a2, a3, a4⟩ := h.at lt
      rw [e1] at f1
      obtain rfl := Option.some.inj f1
      rw [e3] at f3
      obtain rfl := Option.some.inj f3
      rw [e] at f2
      obtain rfl := Option.some.inj f2
      exact ⟨sm, vs', by rw [upd_ne np]; exact a1, a2.fz fz, upd_same, RowsAt.keep fz r⟩
    · rw [if_neg q] at e4
      have nj : rlj ≠ rl := fun z => q (by
        rw [z] at e2
        have i1 := n3.idxOf_getElem i ilt
        have jl : j < rls.length := (List.getElem?_eq_some_iff.mp e2).1
        have i2 := n3.idxOf_getElem j jl
        rw [(List.getElem?_eq_some_iff.mp e).2] at i1
        rw [(List.getElem?_eq_some_iff.mp e2).2] at i2
        omega)
      exact (h.pr j p rlj t rs e1 e2 e3 e4).keep (fun o z => by rw [upd_ne np]; exact z) (fun o z => by rw [upd_ne nj]; exact z) fz
def spFollow (K : PySem.W.Frag) : Sp := fun vs H Q _ => ∃ (w p : Addr) (ps rls : List Addr) (ts : List Ti) (rss : List (List Row)) (kd : Str) (i : Nat) (ti : Ti) (us rs : List Row), vs = [.ref w, .ref p] ∧ Wl H w ps rls ts rss ∧ (ts.map Ti.nm).Nodup ∧
  DeedAt H p kd ti.nm us ∧ ts[i]? = some ti ∧ rss[i]? = some rs ∧ ti.ok ∧ (∀ r ∈ us, Row.ok ti r) ∧ (∀ r ∈ rs, Row.ok ti r) ∧ rs.length ≤ 100 ∧ ts.length ≤ 3 ∧ lenV kd = .int ((us.length + 2 : Nat) : Int) ∧
  ∀ H', BR rls H H' → Fz H H' → Wl H' w ps rls ts (if possR ti kd us rs = true then rss.set i (followR kd us rs) else rss) → Q (.bl (possR ti kd us rs)) H'
def spTold (K : PySem.W.Frag) : Sp := fun vs H Q _ => ∃ (w : Addr) (ps rls : List Addr) (ts : List Ti) (rss : List (List Row)), vs = [.ref w] ∧ Wl H w ps rls ts rss ∧ (∀ t ∈ ts, t.ok) ∧ (∀ (i : Nat) t rs, ts[i]? = some t → rss[i]? = some rs → ∀ r ∈ rs, Row.ok t r) ∧ ts.length ≤ 3 ∧
  ∀ H' D qs, Same H H' → H D = none → H' D = some (.lst (qs.map V.ref)) → RTups H' qs (rss.map sortR) → Q (.ref D) H'
section
variable {P : Program} {w : World} {K : PySem.W.Frag} {mg : Str → Option Value} {base : Heap} {fPo : Addr}
theorem scFollow : FnScope ["_law_world_here", "_law_deed", "_law_pair"] ["_law_world_here", "_law_deed"] (defScope sFollow) := ⟨rfl, rfl, rfl, by decide +kernel, rfl, by decide +kernel, by decide +kernel⟩
theorem scTold : FnScope ["_law_world_here", "_law_some", "_law_rows"] ["_law_world_here"] (defScope sTold) := ⟨rfl, rfl, rfl, by decide +kernel, rfl, by decide +kernel, by decide +kernel⟩
theorem ok_follow {f : Addr} {fd fdP : FuncData} (F : Fun K "_law_follow" "_law_follow" sFollow f fd) (cP : Calls K mg "_law_is_possible" fPo) (GP : FnOk P w K mg base CX0 3 fPo fdP ["_law_world_here", "_law_deed"] (spPossL K)) (bP : Binds K fdP ["_law_world_here", "_law_deed"] []) :
    FnOk P w K mg base CX0 4 f fd ["_law_world_here", "_law_deed"] (spFollow K) := by
  refine F.ok scFollow (fun vs H Q E h => ?_) (fun cdv A outer s H vs Q E hr h => ?_)
  · obtain ⟨w, p, ps, rls, ts, rss, kd, i, ti, us, rs, rfl, _⟩ := h
    rfl
  · obtain ⟨w, p, ps, rls, ts, rss, kd, i, ti, us, rs, rfl, wl, nd, deed, et, er, g, o1, o2, few, few3, hl, k⟩ := h
    have hu : (A.deeper (PyProof.Rows.envOfC "_law_follow" (defScope sFollow) s.heap.objs.size f cdv)).units + 8 < cLine := by
      have := hr.units
      omega
    have big : sizeLine > 1000 := by decide
    refine ⟨_, pss_cons (ps_if (pt_not (pt_val (pe_call GP hr rfl cP.g cP.k bP .nil pass0 (pa_cons (pv 0) (pa_cons (pv 1) pa_nil))))) (pss_one (ps_ret pe_bl)) pss_nil)
      (pss_cons (ps_for PassesOwn.never rfl (pi_list (pv 0)) (pg_name (i := 2) scFollow.nd rfl (Or.inl rfl))
        (pss_one (ps_if (pt_cmpR op_eq (pe_ix ix_tup (pe_ix ix_list (pv 2) pe_int (fun _ _ => rfl)) pe_int (fun _ _ => rfl)) (pe_ix ix_tup (pv 1) pe_int (fun _ _ => rfl)) (nomark _))
          (pss_cons (ps_if (pt_cmpR op_ne (pe_ix ix_tup (pv 1) pe_int (fun _ _ => rfl)) pe_str (nomark _))
              (pss_one (ps_expr (pe_bm PySem.F.plainAttrs_list PySem.F.slot_list_remove PySem.F.type_list_remove (mt_removeR hu) (pe_ix ix_list (pv 2) pe_int (fun _ _ => rfl)) (pa_cons (pe_ix ix_tup (pv 1) pe_int (fun _ _ => rfl)) pa_nil)))) pss_nil)
          (pss_one (ps_if (pt_cmpR op_ne (pe_ix ix_tup (pv 1) pe_int (fun _ _ => rfl)) pe_str (nomark _))
              (pss_one (ps_expr (pe_bm PySem.F.plainAttrs_list PySem.F.slot_list_append PySem.F.type_list_append mt_append (pe_ix ix_list (pv 2) pe_int (fun _ _ => rfl)) (pa_cons (pe_ix ix_tup (pv 1) (pe_un un_neg pe_int) (fun _ _ => rfl)) pa_nil)))) pss_nil)))
          pss_nil)))
      (pss_one (ps_ret pe_bl))), ?_⟩
    obtain ⟨od, xs, hp, hod, hxs⟩ := deed
    refine ⟨_, rfl, _, rfl, w, p, ps, rls, ts, rss, kd, i, ti, xs, us, rs, rfl, wl, nd, .inl (.inr ⟨od, hp⟩), hxs, et, er, g, o1, o2, few, few3, hl, fun H1 s1 => ⟨_, rfl, ?_⟩⟩
    have wl1 := wl.same s1
    cases po : possR ti kd us rs with
    | false =>
      rw [po, if_neg Bool.false_ne_true] at k
      exact iteT (k H1 (.of_same s1) (Fz.of_same s1) wl1)
    | true =>
      refine iteF ?_
      rw [po, if_pos rfl] at k
      have ilt : i < ts.length := (List.getElem?_eq_some_iff.mp et).1
      have hp1 := s1 _ _ hp
      have hxs1 := RowsAt.keep (Fz.of_same s1) hxs
      have ls := wl.ls
      refine ⟨_, rfl, w, rfl, ⟨_, SqL.of wl1.hw⟩, for_list (K := K) (a := w) (xs := ps.map V.ref) (fun j σ H' => ∃ v : Option V, σ = [some (.ref w), some (.ref p), v] ∧ BR rls H1 H' ∧ Fz H1 H' ∧ Wl H' w ps rls ts (if i < j then rss.set i (followR kd us rs) else rss))
        ⟨none, rfl, fun _ _ _ e => e, Fz.refl _, by rw [if_neg (Nat.not_lt_zero _)]; exact wl1⟩ (fun j σ H' _ ⟨_, _, _, _, z⟩ => SqL.of z.hw) ?_ ?_⟩
      · rintro j y σ H2 hj ⟨v, rfl, b2, f2, wl2⟩
        have jlt : j < ts.length := by
          have := (List.getElem?_eq_some_iff.mp hj).1
          rw [List.length_map, wl.lp] at this
          exact this
        obtain ⟨pj, rlj, tj, rsj, g1, g2, g3, g4, smj, vsj, h0, ⟨oj, b1, b2', b3, hsj, hodj, _⟩, h3, h4⟩ := wl2.at jlt
        rw [List.getElem?_map, g1] at hj
        obtain rfl := Option.some.inj hj
        have hp2 : SqT K H2 p (.str kd :: .str ti.nm :: xs) := .inl (.inr ⟨od, f2 _ _ _ hp1⟩)
        refine ⟨_, rfl, pj, _, 0, .ref smj, rfl, rfl, SqL.of h0, rfl, smj, _, 0, .str tj.nm, rfl, rfl, .inl (.inr ⟨oj, hsj⟩), rfl, _, rfl, p, _, 1, .str ti.nm, rfl, rfl, hp2, at1, rfl, _, rfl, ?_⟩
        have ed : decide (V.str tj.nm = V.str ti.nm) = decide (j = i) := decide_eq_decide.mpr ⟨fun e => nm_same nd g3 et (V.str.inj e), fun e => by
          rw [e, et] at g3
          obtain rfl := Option.some.inj g3
          rfl⟩
        rw [ed]
        by_cases e : j = i
        · rw [decide_eq_true e]
          subst e
          rw [et] at g3
          obtain rfl := Option.some.inj g3
          rw [if_neg (Nat.lt_irrefl _)] at wl2 g4
          rw [er] at g4
          obtain rfl := Option.some.inj g4
          refine iteT ?_
          have hx2 := RowsAt.keep f2 hxs1
          have fin : ∀ (vs' : List V) (rs' : List Row), RowsAt H2 vs' rs' → rs' = followR kd us rs → ∃ v : Option V, ([some (.ref w), some (.ref p), some (.ref pj)] : List (Option V)) = [some (.ref w), some (.ref p), v] ∧ BR rls H1 (upd H2 rlj (.lst vs')) ∧ Fz H1 (upd H2 rlj (.lst vs')) ∧ Wl (upd H2 rlj (.lst vs')) w ps rls ts (if j < j + 1 then rss.set j (followR kd us rs) else rss) := fun vs' rs' q qe => by
            obtain ⟨a1, a2, a3⟩ := wl2.put g2 q
            refine ⟨_, rfl, b2.trans a3, f2.trans a2, ?_⟩
            rw [if_pos (Nat.lt_succ_self _), ← qe]
            exact a1
          rcases lenV_cases hl with ⟨e, ln⟩ | ⟨e, ln⟩ | ⟨e, ln⟩ <;> subst e
          · obtain ⟨r, rfl⟩ : ∃ r, us = [r] := List.length_eq_one_iff.mp ln
            obtain ⟨x, rfl⟩ : ∃ x, xs = [x] := List.length_eq_one_iff.mp (by rw [hxs.length]; rfl)
            rw [poss_del] at po
            have mem := of_decide_eq_true po
            cases hx2 with
            | cons hx _ =>
              refine ⟨_, rfl, p, _, 0, .str delS, rfl, rfl, hp2, at0, rfl, _, rfl, ?_⟩
              show if (!decide (V.str delS = V.str insS)) = true then _ else _
              rw [decide_eq_false fun z => del_ins (V.str.inj z)]
              refine iteT ⟨_, rfl, pj, _, 1, .ref rlj, rfl, rfl, SqL.of h0, rfl, .inl ⟨rfl, _, SqL.of h3⟩, _, rfl, p, _, 2, x, rfl, rfl, hp2, rfl, rlj, x, r, vsj, rs, rfl, rfl, h3, hx, h4, mem, fun vs' q lq => ?_⟩
              obtain ⟨a1, a2, a3⟩ := wl2.put g2 q
              refine ⟨_, rfl, p, _, 0, .str delS, rfl, rfl, .inl (.inr ⟨od, a2 _ _ _ (f2 _ _ _ hp1)⟩), at0, rfl, _, rfl, ?_⟩
              show if (!decide (V.str delS = V.str delS)) = true then _ else _
              rw [decide_eq_true rfl]
              refine iteF (fin vs' _ q ?_)
              unfold followR
              rw [if_neg del_ins, if_pos rfl]
              rfl
          · obtain ⟨r, rfl⟩ : ∃ r, us = [r] := List.length_eq_one_iff.mp ln
            obtain ⟨x, rfl⟩ : ∃ x, xs = [x] := List.length_eq_one_iff.mp (by rw [hxs.length]; rfl)
            cases hx2 with
            | cons hx _ =>
              refine ⟨_, rfl, p, _, 0, .str insS, rfl, rfl, hp2, at0, rfl, _, rfl, ?_⟩
              show if (!decide (V.str insS = V.str insS)) = true then _ else _
              rw [decide_eq_true rfl]
              refine iteF ⟨_, rfl, p, _, 0, .str insS, rfl, rfl, hp2, at0, rfl, _, rfl, ?_⟩
              show if (!decide (V.str insS = V.str delS)) = true then _ else _
              rw [decide_eq_false fun z => del_ins (V.str.inj z).symm]
              refine iteT ⟨_, rfl, pj, _, 1, .ref rlj, rfl, rfl, SqL.of h0, rfl, .inl ⟨rfl, _, SqL.of h3⟩, _, rfl, _, rfl, p, _, -1, x, rfl, rfl, hp2, rfl, rlj, vsj, x, rfl, rfl, h3, by rw [h4.length]; omega, ?_⟩
              refine fin _ (rs ++ [r]) (each_append h4 (.cons hx .nil)) ?_
              unfold followR
              rw [if_pos rfl]
          · obtain ⟨r, o, rfl⟩ := two_of ln
            obtain ⟨x, y, rfl⟩ := two_of (xs := xs) (by rw [hxs.length]; rfl)
            rw [poss_rep, Bool.and_eq_true, Bool.and_eq_true] at po
            have mem := of_decide_eq_true po.1.1
            cases hx2 with
            | cons hx t2 =>
              cases t2 with
              | cons hy _ =>
                refine ⟨_, rfl, p, _, 0, .str repS, rfl, rfl, hp2, at0, rfl, _, rfl, ?_⟩
                show if (!decide (V.str repS = V.str insS)) = true then _ else _
                rw [decide_eq_false fun z => rep_ins (V.str.inj z)]
                refine iteT ⟨_, rfl, pj, _, 1, .ref rlj, rfl, rfl, SqL.of h0, rfl, .inl ⟨rfl, _, SqL.of h3⟩, _, rfl, p, _, 2, x, rfl, rfl, hp2, rfl, rlj, x, r, vsj, rs, rfl, rfl, h3, hx, h4, mem, fun vs' q lq => ?_⟩
                obtain ⟨a1, a2, a3⟩ := wl2.put g2 q
                obtain ⟨_, rl3, t3, rs3, c1, c2, c3, c4, sm3, vs3, d0, _, d3, d4⟩ := a1.at jlt
                rw [g1] at c1
                obtain rfl := Option.some.inj c1
                have hp3 : SqT K (upd H2 rlj (.lst vs')) p [.str repS, .str ti.nm, x, y] := .inl (.inr ⟨od, a2 _ _ _ (f2 _ _ _ hp1)⟩)
                rw [g2] at c2
                obtain rfl := Option.some.inj c2
                refine ⟨_, rfl, p, _, 0, .str repS, rfl, rfl, hp3, at0, rfl, _, rfl, ?_⟩
                show if (!decide (V.str repS = V.str delS)) = true then _ else _
                rw [decide_eq_false fun z => rep_del (V.str.inj z)]
                refine iteT ⟨_, rfl, pj, _, 1, .ref rlj, rfl, rfl, SqL.of d0, rfl, .inl ⟨rfl, _, SqL.of d3⟩, _, rfl, _, rfl, p, _, -1, y, rfl, rfl, hp3, rfl, rlj, vs', y, rfl, rfl, upd_same, by have := h4.length; omega, ?_⟩
                have u2 : upd (upd H2 rlj (.lst vs')) rlj (.lst (vs' ++ [y])) = upd H2 rlj (.lst (vs' ++ [y])) := by
                  funext b
                  by_cases z : b = rlj
                  · rw [z, upd_same, upd_same]
                  · rw [upd_ne z, upd_ne z, upd_ne z]
                rw [u2]
                refine fin _ (rs.erase r ++ [o]) (each_append q (.cons hy .nil)) ?_
                unfold followR
                rw [if_neg rep_ins, if_neg rep_del]
                rfl
        · rw [decide_eq_false e]
          refine iteF ⟨_, rfl, b2, f2, ?_⟩
          by_cases q : i < j
          · rw [if_pos q] at wl2
            rw [if_pos (by omega)]
            exact wl2
          · rw [if_neg q] at wl2
            rw [if_neg (by omega)]
            exact wl2
      · rintro σ H2 ⟨v, rfl, b2, f2, wl2⟩
        rw [List.length_map, wl.lp, if_pos ilt] at wl2
        exact k H2 ((BR.of_same s1).trans b2) ((Fz.of_same s1).trans f2) wl2
theorem ok_told {f : Addr} {fd : FuncData} (F : Fun K "_law_told" "_law_told" sTold f fd) (tuple : mg "tuple" = none) (sorted : mg "sorted" = none) : FnOk P w K mg base CX0 1 f fd ["_law_world_here"] (spTold K) := by
  refine F.ok scTold (fun vs H Q E h => ?_) (fun cdv A outer s H vs Q E hr h => ?_)
  · obtain ⟨w, ps, rls, ts, rss, rfl, _⟩ := h
    rfl
  · obtain ⟨w, ps, rls, ts, rss, rfl, wl, okt, okr, few, k⟩ := h
    have hu : (A.deeper (PyProof.Rows.envOfC "_law_told" (defScope sTold) s.heap.objs.size f cdv)).units + 8 < cLine := by
      have := hr.units
      omega
    have hu0 : ∀ {X : Cx}, X.A = (A.deeper (PyProof.Rows.envOfC "_law_told" (defScope sTold) s.heap.objs.size f cdv)) → X.A.units + 8 < cLine := fun e => by rw [e]; exact hu
    have big : sizeLine > 1000 := by decide
    refine ⟨_, pss_one (ps_ret (pe_lc (own := [("_law_some", 1), ("_law_rows", 2)]) (g := gLst K 2 (gCons (gName 1) (gCons (gName 2) gNil))) (tt := tYes)
        (te := tCB (fun xs H Q => ∃ p ys, xs = [.ref p] ∧ SqL K H p ys ∧ ∀ q ob, H q = none → ob.dict = none → Q (.ref q) (upd H q (.frz ob (.tup ys)))) (tCons (tCB (rSortR K) (tCons (tVar 2) tNil)) tNil)) rfl scTold.nd (pi_list (pv 0))
          (blkOk_by (N := ["_law_world_here", "_law_some", "_law_rows"]) (sc := defScope sTold) (by decide +kernel))
          (fun _ _ _ _ _ => by exact (pg_lst rfl (by exact (pgs_cons (pg_name (i := 1) scTold.nd rfl (Or.inl rfl)) (by exact (pgs_cons (pg_name (i := 2) scTold.nd rfl (Or.inl rfl)) pgs_nil)))))) (fun _ _ _ _ _ => pts_nil)
          (fun _ _ _ _ _ => by exact (pe_callTy call_tupleF (by rfl) tuple (by decide +kernel) (pa_cons (pe_callB (call_sortedR hu) (by rfl) sorted (by decide +kernel) (pa_cons (pv 2) pa_nil)) pa_nil))))), ?_⟩
    refine ⟨_, rfl, w, rfl, ⟨_, SqL.of wl.hw⟩, fun D hD => ?_⟩
    refine lc_list (K := K) (a := w) (xs := ps.map V.ref) (fun i H' => Same H H' ∧ ∃ qs : List Addr, H' D = some (.lst (qs.map V.ref)) ∧ RTups H' qs ((rss.take i).map sortR) ∧ qs.length = i) ⟨same_upd hD, [], upd_same, .nil, rfl⟩ (fun i H' _ z => SqL.of (z.1 _ _ wl.hw)) ?_ ?_
    · rintro i y H2 hi ⟨s2, qs, e2, rt, lq⟩
      have lt : i < ts.length := by
        have := (List.getElem?_eq_some_iff.mp hi).1
        rw [List.length_map, wl.lp] at this
        exact this
      obtain ⟨p, rl, t, rs, e1, _, e3, e4, sm, vs, h0, _, h3, h4⟩ := wl.at lt
      rw [List.getElem?_map, e1] at hi
      obtain rfl := Option.some.inj hi
      have tok := okt t (List.mem_of_getElem? e3)
      obtain ⟨c, cs, ecs⟩ := shp_cons tok
      refine ⟨p, [.ref sm, .ref rl], rfl, SqL.of (s2 _ _ h0), rfl, _, _, rfl, _, _, rfl, rfl, ?_⟩
      refine ⟨rfl, ?_⟩
      dsimp only [tYes]
      rw [if_pos rfl]
      refine ⟨_, rfl, rl, vs, rs, c, cs, rfl, SqL.of (s2 _ _ h3), RowsAt.keep (Fz.of_same s2) h4, fun r m => ?_, fun q vs' hq rv => ⟨q, vs', rfl, SqL.of upd_same, fun q2 ob hq2 hob => ?_⟩⟩
      · rw [← ecs]
        exact ok_shp (okr i t rs e3 e4 r m)
      have sa := same_upd (o := .lst vs') hq
      have sb := same_upd (o := .frz ob (.tup vs')) hq2
      have sab := sa.trans sb
      have s03 := s2.trans sab
      have nD : q2 ≠ D := fun z => by
        rw [z, sa _ _ e2] at hq2
        cases hq2
      refine ⟨_, sab _ _ e2, by rw [List.length_map]; omega, fun b u e => ?_, qs ++ [q2], ?_, ?_, by rw [List.length_append, lq]; rfl⟩
      · rw [upd_ne (ne_of_none e hD)]
        exact s03 _ _ e
      · rw [upd_same, List.map_append]
        rfl
      · have fz : Fz (upd (upd H2 q (.lst vs')) q2 (.frz ob (.tup vs'))) (upd (upd (upd H2 q (.lst vs')) q2 (.frz ob (.tup vs'))) D (.lst (qs.map V.ref ++ [V.ref q2]))) := fun b o xs e => by
          rw [upd_ne fun z => by rw [z, sab _ _ e2] at e; cases e]
          exact e
        rw [List.take_add_one, e4, List.map_append]
        exact each_append ((rt.mono fun _ _ z => z.keep (Fz.of_same sab)).mono fun _ _ z => z.keep fz) (.cons (RTup.keep ⟨ob, vs', upd_same, hob, RowsAt.keep (Fz.of_same sab) rv⟩ fz) .nil)
    · rintro H2 ⟨s2, qs, e2, rt, lq⟩
      rw [List.length_map, wl.lp, ← wl.ls, List.take_length] at rt
      exact k H2 D qs s2 hD e2 rt
end
end Vm
/-! the law: what names and rows are; odd values -/
namespace Vm
open PySem L2
abbrev sOddL : Stmt := top 57
abbrev sLIsName : Stmt := top 59
abbrev sLIsRow : Stmt := top 60
theorem if_as {b b' : Bool} {A B : Prop} (e : b = b') (h : if b' = true then A else B) : if b = true then A else B := by
  rw [e]
  exact h
theorem lt_one (c d : Nat) : decide ([c] < [d]) = decide (c < d) := by
  by_cases h : c < d
  · rw [decide_eq_true h]
    exact decide_eq_true (List.cons_lt_cons_iff.mpr (.inl h))
  · rw [decide_eq_false h]
    refine decide_eq_false fun z => ?_
    rcases List.cons_lt_cons_iff.mp z with z | ⟨_, z⟩
    · exact h z
    · exact absurd z (List.not_lt_nil _)
section
variable {X : Cx}
/-- a list beside an empty one -/
def rNil (K : PySem.W.Frag) : R2 := fun x y H Q => ∃ (p q : Addr) (xs : List V), x = .ref p ∧ y = .ref q ∧ SqL K H p xs ∧ SqL K H q [] ∧ Q (.bl xs.isEmpty) H
theorem op_eqNil (hu : X.A.units < cLine) : OpR X (compareOp .Eq) (rNil X.K) := by
  intro pins s σ H x y v u Q I rx ry h
  obtain ⟨p, q, xs, rfl, rfl, hp, hq, k⟩ := h
  cases rx
  cases ry
  obtain ⟨its, r, pl, _⟩ := I.list hp
  obtain ⟨its2, r2, pl2, _⟩ := I.list hq
  cases r2
  cases r with
  | nil => exact SeqAt.eq_listAt (e := fun _ => true) pl.isList pl2.isList rfl hu (fun j h1 _ => absurd h1 (by simp)) ⟨.bl true, H, I, rfl, k⟩
  | cons a b => exact SeqAt.eq_list_lengthsAt pl.isList pl2.isList (by simp) hu ⟨.bl false, H, I, rfl, k⟩
end
def offs (cs : List Nat) : List V := (cs.filter fun c => !lowB c).map fun c => V.str ⟨#[c]⟩
theorem offs_nil (cs : List Nat) : (offs cs).isEmpty = cs.all lowB := by
  induction cs with
  | nil => rfl
  | cons c r ih =>
    unfold offs at ih ⊢
    rw [List.all_cons, List.filter_cons]
    cases lowB c with
    | true => exact ih
    | false => rfl
section
variable {X : Cx} {tA : TT} {pos : Pos}
/-- a if t else b, as a test -/
def tIfT (t ta tb : TT) : TT := fun σ H Q => t σ H fun c H1 => if c = true then ta σ H1 Q else tb σ H1 Q
theorem pt_ifExp {c a b : Expr} {ta tb : TT} (hc : PT X c tA) (ha : PT X a ta) (hb : PT X b tb) : PT X (.IfExp c a b pos) (tIfT tA ta tb) := by
  refine ⟨fun pins s σ H Q I h => ?_⟩
  refine PyProof.Rows.isTrue_IfExp (thn (hc.run pins s σ H _ I h) fun d s1 ⟨H1, I1, q1⟩ => ?_)
  cases d with
  | true => exact ha.run pins s1 σ H1 Q I1 q1
  | false => exact hb.run pins s1 σ H1 Q I1 q1
end
def okAt (a : Nat) (ts : List Tr) (i : Nat) : Bool := match ts[i]? with
  | some t => if i < a then isNm t else isNum t
  | none => true
theorem okAt_all (a : Nat) (ts : List Tr) : ((ts.take a).all isNm && (ts.drop a).all isNum) = (List.range ts.length).all (okAt a ts) := by
  rw [Bool.eq_iff_iff, Bool.and_eq_true, List.all_eq_true, List.all_eq_true, List.all_eq_true]
  constructor
  · rintro ⟨h1, h2⟩ i hi
    have lt : i < ts.length := List.mem_range.mp hi
    unfold okAt
    rw [List.getElem?_eq_getElem lt]
    show (if i < a then isNm ts[i] else isNum ts[i]) = true
    by_cases c : i < a
    · rw [if_pos c]
      exact h1 _ (List.mem_of_getElem? (i := i) (by rw [List.getElem?_take_of_lt c, List.getElem?_eq_getElem lt]))
    · rw [if_neg c]
      exact h2 _ (List.mem_of_getElem? (i := i - a) (by rw [List.getElem?_drop, show a + (i - a) = i by omega, List.getElem?_eq_getElem lt]))
  · intro h
    refine ⟨fun x hx => ?_, fun x hx => ?_⟩
    · obtain ⟨i, hi, e⟩ := List.mem_iff_getElem.mp hx
      have l1 : i < a ∧ i < ts.length := by
        rw [List.length_take] at hi
        omega
      have z := h i (List.mem_range.mpr l1.2)
      unfold okAt at z
      rw [List.getElem?_eq_getElem l1.2] at z
      have z2 : (if i < a then isNm ts[i] else isNum ts[i]) = true := z
      rw [if_pos l1.1] at z2
      rw [List.getElem_take] at e
      rw [← e]
      exact z2
    · obtain ⟨i, hi, e⟩ := List.mem_iff_getElem.mp hx
      have l1 : a + i < ts.length := by
        rw [List.length_drop] at hi
        omega
      have z := h (a + i) (List.mem_range.mpr l1)
      unfold okAt at z
      rw [List.getElem?_eq_getElem l1] at z
      have z2 : (if a + i < a then isNm ts[a + i] else isNum ts[a + i]) = true := z
      rw [if_neg (by omega)] at z2
      rw [List.getElem_drop] at e
      rw [← e]
      exact z2
section
variable {P : Program} {w : World} {K : PySem.W.Frag} {mg : Str → Option Value} {base : Heap} {fNm fNms fL fD fP : Addr}
theorem scLIsName : FnScope ["_law_it", "_law_sign"] ["_law_it"] (defScope sLIsName) := ⟨rfl, rfl, rfl, by decide +kernel, rfl, by decide +kernel, by decide +kernel⟩
theorem ok_lisname {f : Addr} {fd : FuncData} (F : Fun K "_law_is_name" "_law_is_name" sLIsName f fd) (T : TxtP K mg fNm fNms) : FnOk P w K mg base CX0 1 f fd ["_law_it"] (spTest K isNm) := by
  refine F.ok scLIsName (fun vs H Q E h => ?_) (fun cdv A outer s H vs Q E hr h => ?_)
  · obtain ⟨v, t, n, bs, rfl, _⟩ := h
    rfl
  · obtain ⟨v, t, n, bs, rfl, d, k⟩ := h
    refine ⟨_, pss_one (ps_ret (pe_and (pe_callB call_isi (by rfl) T.isi (by decide +kernel) (pa_cons (pv 0) (pa_cons (pe_bltn (v := .ty "str") (by rfl) T.str (by decide +kernel) rfl) pa_nil)))
      (pe_and (pe_chain op_lt op_lt pe_int (pe_callB call_len_str (by rfl) T.len (by decide +kernel) (pa_cons (pv 0) pa_nil)) pe_int)
      (pe_one (pe_cmpR (op_eqNil hr.units0) (pe_lc (own := [("_law_sign", 1)]) (g := gName 1) rfl scLIsName.nd (pi_str (pv 0))
          (blkOk_by (N := ["_law_it", "_law_sign"]) (sc := defScope sLIsName) (by decide +kernel)) (fun _ _ _ _ _ => pg_name (i := 1) scLIsName.nd rfl (Or.inl rfl))
          (fun _ _ _ _ _ => pts_one (pt_not (pt_chain op_le_str op_le_str pe_str (pv 1) pe_str)))
          (fun _ _ _ _ _ => pv 1)) (pe_lst pa_nil) (nomark _)))))), ?_⟩
    refine ⟨_, rfl, v, _, _, _, isStr t, rfl, .ty _, d.ty, kit_str t, isStr t, rfl, ?_⟩
    have no : ∀ {H' : Hp}, Same H H' → isNm t = false → Q (.bl false) H' := fun {H'} s' z => by
      rw [← z]
      exact k H' s'
    cases d with
    | @str n x h hz =>
      refine iteT ?_
      have hl : x.length = x.cps.toList.length := by
        show x.cps.size = _
        simp
      refine ⟨_, rfl, x, rfl, hz, _, _, rfl, rfl, _, rfl, ?_⟩
      refine ite_ (fun e1 => ?_) (fun e1 => ?_)
      · refine ⟨_, _, rfl, rfl, _, rfl, ?_⟩
        refine ite_ (fun e8 => ?_) (fun e8 => ?_)
        · have z : x.length ≤ 8 := by omega
          refine ⟨_, rfl, x, rfl, fun D hD => ?_⟩
          refine lc_it (walk_str (z := x)) (fun i H' => Same H H' ∧ H' D = some (.lst (offs (x.cps.toList.take i)))) ⟨same_upd hD, upd_same⟩ (fun _ _ _ _ => True.intro) ?_ ?_
          · rintro i y H2 H3 hi ⟨s2, e2⟩ ⟨rfl, c, ec, rfl⟩
            have ec2 : x.cps.toList[i]? = some c := by
              rw [Array.getElem?_toList]
              exact ec
            have low : (decide (97 ≤ c) && decide (c ≤ 122)) = lowB c := rfl
            have step : offs (x.cps.toList.take (i + 1)) = if lowB c = true then offs (x.cps.toList.take i) else offs (x.cps.toList.take i) ++ [V.str ⟨#[c]⟩] := by
              unfold offs
              rw [List.take_add_one, ec2]
              show (((x.cps.toList.take i) ++ [c]).filter _).map _ = _
              rw [List.filter_append, List.map_append]
              cases e : lowB c with
              | true =>
                rw [if_pos rfl]
                simp [e]
              | false =>
                rw [if_neg (by decide)]
                simp [e]
            have few : (offs (x.cps.toList.take i)).length < sizeLine := by
              have l1 := List.length_filter_le (fun c => !lowB c) (x.cps.toList.take i)
              have l2 : (x.cps.toList.take i).length ≤ x.cps.toList.length := by
                rw [List.length_take]
                omega
              have big : sizeLine > 8 := by decide
              unfold offs
              rw [List.length_map]
              omega
            have put : lowB c = false → ∃ acc, H3 D = some (.lst acc) ∧ acc.length < sizeLine ∧ Same H (upd H3 D (.lst (acc ++ [V.str ⟨#[c]⟩]))) ∧ upd H3 D (.lst (acc ++ [V.str ⟨#[c]⟩])) D = some (.lst (offs (x.cps.toList.take (i + 1)))) := fun e =>
              ⟨_, e2, few, fun b o y => by
                rw [upd_ne (ne_of_none y hD)]
                exact s2 b o y, by rw [upd_same, step, if_neg (by rw [e]; decide)]⟩
            have a97 : (!decide ((⟨#[c]⟩ : Str).cps.toList < (Str.ofString "a").cps.toList)) = decide (97 ≤ c) := by
              have ea : (Str.ofString "a").cps.toList = [97] := by decide +kernel
              rw [ea]
              show (!decide ([c] < [97])) = _
              rw [lt_one]
              by_cases y : 97 ≤ c
              · rw [decide_eq_true y, decide_eq_false (by omega)]
                rfl
              · rw [decide_eq_false y, decide_eq_true (by omega)]
                rfl
            have z122 : (!(!decide ((Str.ofString "z").cps.toList < (⟨#[c]⟩ : Str).cps.toList))) = !decide (c ≤ 122) := by
              have ez : (Str.ofString "z").cps.toList = [122] := by decide +kernel
              rw [ez]
              show (!(!decide ([122] < [c]))) = _
              rw [lt_one]
              by_cases y : c ≤ 122
              · rw [decide_eq_true y, decide_eq_false (by omega)]
                rfl
              · rw [decide_eq_false y, decide_eq_true (by omega)]
                rfl
            refine ⟨rfl, _, rfl, _, _, rfl, rfl, _, rfl, ?_⟩
            refine if_as a97 (ite_ (fun y => ?_) (fun y => ?_))
            · refine ⟨_, _, rfl, rfl, _, rfl, if_as z122 (iteB (fun e => ?_) (fun e => ?_))⟩
              · have e' : lowB c = false := by
                  rw [← low]
                  rw [Bool.not_eq_true'] at e
                  rw [e, Bool.and_false]
                exact ⟨_, rfl, put e'⟩
              · have e' : lowB c = true := by
                  rw [← low]
                  rw [Bool.not_eq_false'] at e
                  rw [e, decide_eq_true y]
                  rfl
                exact ⟨s2, by rw [step, if_pos e']; exact e2⟩
            · have e' : lowB c = false := by
                rw [← low, decide_eq_false y, Bool.false_and]
              exact ⟨_, rfl, iteT ⟨_, rfl, put e'⟩⟩
          · rintro H2 ⟨s2, e2⟩
            have full : x.cps.toList.take x.cps.size = x.cps.toList := by
              rw [← Array.length_toList]
              exact List.take_length
            rw [full] at e2
            refine ⟨Nat.zero_le _, fun p hp => ?_⟩
            have s3 := s2.trans (same_upd (o := .lst []) hp)
            refine ⟨D, p, offs x.cps.toList, rfl, rfl, SqL.of (same_upd hp _ _ e2), SqL.of upd_same, ?_⟩
            have z2 : (offs x.cps.toList).isEmpty = isNm (.str x) := by
              rw [offs_nil]
              show _ = nmS x
              unfold nmS
              rw [decide_eq_true (show 1 ≤ x.length by omega), decide_eq_true (show x.length ≤ 8 by omega), Bool.true_and, Bool.true_and]
            rw [z2]
            exact k _ s3
        · refine no (Same.refl H) ?_
          show nmS x = false
          unfold nmS
          rw [decide_eq_false (show ¬ x.length ≤ 8 by omega), Bool.false_and, Bool.and_false]
      · refine ⟨_, rfl, iteF (no (Same.refl H) ?_)⟩
        show nmS x = false
        unfold nmS
        rw [decide_eq_false (show ¬ 1 ≤ x.length by omega), Bool.false_and]
    | _ => exact iteF (no (Same.refl H) rfl)
def spLRow (K : PySem.W.Frag) : Sp := fun vs H Q _ => ∃ (sm : Addr) (ti : Ti) (v : V) (t : Tr) (n : Nat) (bs : List Addr), vs = [.ref sm, v] ∧ ArgT H sm ti ∧ Dt K H v t n bs ∧ ∀ H', Same H H' → Q (.bl (isRow ti.ss.length ti.zs.length t)) H'
theorem scLIsRow : FnScope ["_law_some", "_law_it", "_law_place", "_law_value", "_law_is_number"] ["_law_some", "_law_it"] (defScope sLIsRow) := ⟨rfl, rfl, rfl, by decide +kernel, rfl, by decide +kernel, by decide +kernel⟩
theorem ok_lisrow {f : Addr} {fd fdL : FuncData} (F : Fun K "_law_is_row" "_law_is_row" sLIsRow f fd) (T : TxtP K mg fNm fNms) (gE : mg "enumerate" = none) (cL : Calls K mg "_law_is_name" fL) (GL : FnOk P w K mg base CX0 1 fL fdL ["_law_it"] (spTest K isNm)) (bL : Binds K fdL ["_law_it"] []) :
    FnOk P w K mg base CX0 2 f fd ["_law_some", "_law_it"] (spLRow K) := by
  refine F.ok scLIsRow (fun vs H Q E h => ?_) (fun cdv A outer s H vs Q E hr h => ?_)
  · obtain ⟨sm, ti, v, t, n, bs, rfl, _⟩ := h
    rfl
  · obtain ⟨sm, ti, v, t, n, bs, rfl, ⟨oa, a1, a2, a3, h0, hod, T1, T2, T3⟩, d, k⟩ := h
    refine ⟨_, pss_cons (ps_if (PW.pt (pw_or (pt_not (pt_val (pe_callB call_isi (by rfl) T.isi (by decide +kernel) (pa_cons (pv 1) (pa_cons (pe_bltn (v := .ty "tuple") (by rfl) T.tuple (by decide +kernel) rfl) pa_nil)))))
          (pw_or1 (pt_cmpR op_ne (pe_callB call_len_seq (by rfl) T.len (by decide +kernel) (pa_cons (pv 1) pa_nil))
            (pe_op op_add (pe_callB call_len_seq (by rfl) T.len (by decide +kernel) (pa_cons (pe_ix ix_tup (pv 0) pe_int (fun _ _ => rfl)) pa_nil)) (pe_callB call_len_seq (by rfl) T.len (by decide +kernel) (pa_cons (pe_ix ix_tup (pv 0) pe_int (fun _ _ => rfl)) pa_nil))) (nomark _)))))
        (pss_one (ps_ret pe_bl)) pss_nil)
      (pss_cons (ps_for PassesOwn.never rfl (pi_enumT rfl gE (pa_cons (pv 1) pa_nil)) (pg_tup rfl (pgs_cons (pg_name (i := 2) scLIsRow.nd rfl (Or.inl rfl)) (pgs_cons (pg_name (i := 3) scLIsRow.nd rfl (Or.inl rfl)) pgs_nil)))
        (pss_cons (ps_set (i := 4) scLIsRow.nd rfl (Or.inl rfl) (pe_and (pe_callB call_isi (by rfl) T.isi (by decide +kernel) (pa_cons (pv 3) (pa_cons (pe_bltn (v := .ty "int") (by rfl) T.int (by decide +kernel) rfl) pa_nil)))
            (pe_one (pe_not (pe_callB call_isi (by rfl) T.isi (by decide +kernel) (pa_cons (pv 3) (pa_cons (pe_bltn (v := .ty "bool") (by rfl) T.bool (by decide +kernel) rfl) pa_nil)))))))
        (pss_one (ps_if (pt_not (pt_ifExp (pt_cmpR op_lt (pv 2) (pe_callB call_len_seq (by rfl) T.len (by decide +kernel) (pa_cons (pe_ix ix_tup (pv 0) pe_int (fun _ _ => rfl)) pa_nil)) (nomark _))
              (pt_val (pe_call GL hr rfl cL.g cL.k bL .nil pass0 (pa_cons (pv 3) pa_nil))) (pt_val (pv 4))))
            (pss_one (ps_ret pe_bl)) pss_nil))))
      (pss_one (ps_ret pe_bl))), ?_⟩
    have it1 : ∀ {H' : Hp}, Same H H' → SqT K H' sm [.str ti.nm, .ref a1, .ref a2, .ref a3] := fun {H'} s' => .inl (.inr ⟨oa, s' _ _ h0⟩)
    have h1 : ∀ {H' : Hp}, Same H H' → SqT K H' a1 (ti.ss.map V.str) := fun s' => (T1.same s').sq
    have h2 : ∀ {H' : Hp}, Same H H' → SqT K H' a2 (ti.zs.map V.str) := fun s' => (T2.same s').sq
    generalize hss : ti.ss = ss at h1 k
    generalize hzs : ti.zs = zs at h2 k
    have no : ∀ H', Same H H' → isRow ss.length zs.length t = false → Q (.bl false) H' := fun H' s' z => by
      rw [← z]
      exact k H' s'
    refine ⟨_, rfl, v, _, _, _, isTup t, rfl, .ty _, d.ty, kit_tup t, _, rfl, ?_⟩
    cases ht : isTup t with
    | false =>
      refine iteT (iteT (no H (Same.refl H) ?_))
      cases t <;> first | rfl | cases ht
    | true =>
      obtain ⟨b, xs, ts, m, cs, rfl, rfl, _, hb, r, _⟩ := d.tupOf ht
      have hl := r.length
      refine iteF ?_
      refine ⟨_, rfl, b, xs, rfl, .inr hb, _, rfl, sm, _, 1, .ref a1, rfl, rfl, it1 (Same.refl H), rfl, a1, _, rfl, .inr (h1 (Same.refl H)), _, rfl, sm, _, 2, .ref a2, rfl, rfl, it1 (Same.refl H), rfl, a2, _, rfl, .inr (h2 (Same.refl H)), _, _, rfl, rfl, rfl, _, rfl, ?_⟩
      refine iteB (fun e => ?_) (fun e => ?_)
      · refine no H (Same.refl H) ?_
        show (decide (ts.length = ss.length + zs.length) && _) = false
        rw [Bool.not_eq_true', decide_eq_false_iff_not, List.length_map, List.length_map] at e
        rw [decide_eq_false (fun z => e (by rw [hl, z]; rfl)), Bool.false_and]
      have el : ts.length = ss.length + zs.length := by
        rw [Bool.not_eq_false', decide_eq_true_eq, List.length_map, List.length_map] at e
        have := V.int.inj e
        omega
      have row : isRow ss.length zs.length (.tup ts) = (List.range ts.length).all (okAt ss.length ts) := by
        rw [← okAt_all]
        show (decide (ts.length = ss.length + zs.length) && _) = _
        rw [decide_eq_true el, Bool.true_and]
      have bad : ∀ {i : Nat}, i < ts.length → okAt ss.length ts i = false → isRow ss.length zs.length (.tup ts) = false := fun {i} hi z => by
        rw [row]
        refine Bool.eq_false_iff.mpr fun y => ?_
        have := List.all_eq_true.mp y i (List.mem_range.mpr hi)
        rw [z] at this
        cases this
      refine ⟨_, rfl, b, xs, rfl, hb, for_it (walk_enumT (K := K) (a := b) (xs := xs)) (fun i σ H' => ∃ v2 v3 v4 : Option V, σ = [some (.ref sm), some (.ref b), v2, v3, v4] ∧ Same H H' ∧ ∀ j, j < i → okAt ss.length ts j = true) ⟨none, none, none, rfl, Same.refl H, fun j hj => absurd hj (Nat.not_lt_zero j)⟩
        (fun i σ H' _ ⟨_, _, _, _, s', _⟩ => sameT s' hb) ?_ ?_⟩
      · rintro i y σ H2 H3 hi ⟨v2, v3, v4, rfl, s2, ok⟩ ⟨T1', x1, x2, rfl, hT, rfl, g1, g2⟩
        cases g1
        have s3 : Same H (upd H2 T1' (.tup [.int (i : Nat), x2])) := s2.trans (same_upd hT)
        obtain ⟨t, ct, et, dt, _⟩ := r.get g2
        have it : i < ts.length := by omega
        have at_i : okAt ss.length ts i = if i < ss.length then isNm t else isNum t := by
          unfold okAt
          rw [et]
        have num : isNum t = (isInt t && !isBl t) := by
          cases t <;> rfl
        have nx : ∀ {σ' : St} {H' : Hp}, Same H H' → okAt ss.length ts i = true → (∃ v2 v3 v4 : Option V, σ' = [some (.ref sm), some (.ref b), v2, v3, v4]) → ∃ v2 v3 v4 : Option V, σ' = [some (.ref sm), some (.ref b), v2, v3, v4] ∧ Same H H' ∧ ∀ j, j < i + 1 → okAt ss.length ts j = true := fun {σ' H'} s' e ⟨p2, p3, p4, ep⟩ => ⟨p2, p3, p4, ep, s', fun j hj => by
          by_cases q : j = i
          · rw [q]; exact e
          · exact ok j (by omega)⟩
        refine ⟨T1', _, rfl, SqT.of upd_same, rfl, _, _, rfl, _, _, rfl, rfl, ?_⟩
        refine ⟨_, rfl, x2, _, _, _, isInt t, rfl, .ty _, (dt.same s3).ty, kit_int t, isInt t, rfl, ?_⟩
        refine ite2 (fun e => ?_) (fun e => ?_)
        · refine ⟨_, rfl, x2, _, _, _, isBl t, rfl, .ty _, (dt.same s3).ty, kit_bl t, _, rfl, ?_⟩
          refine ⟨_, rfl, _, rfl, sm, _, 1, .ref a1, rfl, rfl, it1 s3, rfl, a1, _, rfl, .inr (h1 s3), _, _, rfl, rfl, _, rfl, ?_⟩
          show if decide ((i : Int) < ((ss.map V.str).length : Int)) = true then _ else _
          rw [List.length_map]
          refine ite_ (fun c => ?_) (fun c => ?_)
          · have c' : i < ss.length := by omega
            rw [if_pos c'] at at_i
            refine ⟨_, rfl, x2, t, _, ct, rfl, dt.same s3, fun H4 s4 => ⟨_, rfl, ?_⟩⟩
            cases eb : isNm t with
            | false => exact iteT (no H4 (s3.trans s4) (bad it (by rw [at_i, eb])))
            | true => exact iteF (nx (s3.trans s4) (by rw [at_i, eb]) ⟨_, _, _, rfl⟩)
          · have c' : ¬ i < ss.length := by omega
            rw [if_neg c', num, e, Bool.true_and] at at_i
            refine ⟨_, rfl, _, rfl, ?_⟩
            cases eb : isBl t with
            | true => exact iteT (no _ s3 (bad it (by rw [at_i, eb]; rfl)))
            | false => exact iteF (nx s3 (by rw [at_i, eb]; rfl) ⟨_, _, _, rfl⟩)
        · refine ⟨_, rfl, _, rfl, sm, _, 1, .ref a1, rfl, rfl, it1 s3, rfl, a1, _, rfl, .inr (h1 s3), _, _, rfl, rfl, _, rfl, ?_⟩
          show if decide ((i : Int) < ((ss.map V.str).length : Int)) = true then _ else _
          rw [List.length_map]
          refine ite_ (fun c => ?_) (fun c => ?_)
          · have c' : i < ss.length := by omega
            rw [if_pos c'] at at_i
            refine ⟨_, rfl, x2, t, _, ct, rfl, dt.same s3, fun H4 s4 => ⟨_, rfl, ?_⟩⟩
            cases eb : isNm t with
            | false => exact iteT (no H4 (s3.trans s4) (bad it (by rw [at_i, eb])))
            | true => exact iteF (nx (s3.trans s4) (by rw [at_i, eb]) ⟨_, _, _, rfl⟩)
          · have c' : ¬ i < ss.length := by omega
            rw [if_neg c', num, Bool.eq_false_iff.mpr e, Bool.false_and] at at_i
            exact ⟨_, rfl, _, rfl, iteT (no _ s3 (bad it at_i))⟩
      · rintro σ H2 ⟨v2, v3, v4, rfl, s2, ok⟩
        show Q (.bl true) H2
        have z : isRow ss.length zs.length (.tup ts) = true := by
          rw [row]
          exact List.all_eq_true.mpr fun j hj => ok j (by have := List.mem_range.mp hj; omega)
        rw [← z]
        exact k H2 s2
end
end Vm
/-! the law: odd values; a change as data -/
namespace Vm
open PySem L2
def odds : List Tr := [.non, .bl true, .bl false, .int 0, .int 1, .str "", .str "t", .str "insert", .str "row", .tup [], .lst [], .dct [] [], .tup [.str "a"], .lst [.str "a"], .tup [.str "insert"], .int (10 ^ 39), .str "A"]
theorem odds_w : ∀ t ∈ odds, t.w ≤ 60 := by
  intro t h
  unfold odds at h
  simp only [List.mem_cons, List.not_mem_nil, or_false] at h
  rcases h with e | e | e | e | e | e | e | e | e | e | e | e | e | e | e | e | e <;> subst e <;> decide +kernel
def spots : List Tr := [.str "t", .str "s", .str "row", .str "a", .str "T", .non, .tup [.str "t"], .lst [.str "t"], .int 0, .bl true]
theorem spots_w : ∀ t ∈ spots, t.w ≤ 60 := by
  intro t h
  unfold spots at h
  simp only [List.mem_cons, List.not_mem_nil, or_false] at h
  rcases h with e | e | e | e | e | e | e | e | e | e <;> subst e <;> decide +kernel
/-- a value of those that are no part of a change -/
def spOdd (K : PySem.W.Frag) : Sp := fun vs H Q _ => ∃ (s l : Addr) (ms : List Int) (z b : Int), vs = [.ref s] ∧ Src H s l ms z b ∧ 0 ≤ b ∧ b < 900000 ∧
  ∀ (H' : Hp) (ms' : List Int) (v : V) (t : Tr), But s l H H' → Src H' s l ms' z (b + 1) → DP K H' (fun c => Off s l c ∧ H c = none) v t 2 → t.w ≤ 60 → Q v H'
/-- picking from new data -/
theorem pick_data {K : PySem.W.Frag} {H H2 : Hp} {a l q : Addr} {ms : List Int} {z b : Int} {vs : List V} {ts : List Tr} {Q : VK} {E : XK} (hs : Src H a l ms z b) (b0 : 0 ≤ b) (b1 : b < 1000000) (s2 : Same H H2) (ds : DPs K H2 (NewIn H) vs ts 2) (hq : H2 q = none) (n0 : 0 < ts.length) (n1 : ts.length ≤ 1000)
    (k : ∀ (H' : Hp) (ms' : List Int) (v : V) (t : Tr), But a l H H' → Src H' a l ms' z (b + 1) → t ∈ ts → DP K H' (fun c => Off a l c ∧ H c = none) v t 2 → Q v H') : spPick K [.ref a, .ref q] (upd H2 q (.lst vs)) Q E := by
  have s3 := s2.trans (same_upd (o := .lst vs) hq)
  have hs3 := hs.but s3
  have ln := ds.length
  obtain ⟨ra, rl⟩ := (hs.but s2).free hq
  have er : upd H2 q (.lst vs) q = some (.lst vs) := upd_same
  have ds3 : DPs K (upd H2 q (.lst vs)) (NewIn H) vs ts 2 := ds.same (same_upd hq)
  generalize upd H2 q (.lst vs) = H3 at s3 hs3 er ds3 ⊢
  refine ⟨a, l, .ref q, ms, z, b, rfl, hs3, b0, b1, .inl ⟨q, vs, rfl, fun H' k' => SqL.of (k' _ _ ra rl er), by omega, by omega, fun H4 ms4 y k4 hs4 hy => ?_⟩⟩
  obtain ⟨t, ht, d⟩ := DP.mem ds3 hy
  exact k H4 ms4 y t ((But.of_same s3).trans k4) hs4 ht ((d.imp (Q := fun c => Off a l c ∧ H c = none) fun c e => ⟨hs.free e, e⟩).keep fun c o p e => k4 c o p.1.1 p.1.2 e)
section
variable {P : Program} {w : World} {K : PySem.W.Frag} {mg : Str → Option Value} {base : Heap} {fD fP : Addr}
theorem scOdd : FnScope ["_law_source_here", "_law_some"] ["_law_source_here"] (defScope sOddL) := ⟨rfl, rfl, rfl, by decide +kernel, rfl, by decide +kernel, by decide +kernel⟩
theorem pd_s {X : Cx} {z : Str} {k n : Nat} {p : Pos} (h1 : (reprText z).length ≤ 302) (h2 : z.length ≤ 302) : PE X (.Constant (.str z) k p) (tDt X.K (.str z) n) := pd_of pe_str fun H => .str (Nat.le_trans h1 (by decide)) (Nat.le_trans h2 (by decide))
theorem pd_i {X : Cx} {i : Int} {k n : Nat} {p : Pos} (h : i.natAbs < 10 ^ 40) : PE X (.Constant (.int i) k p) (tDt X.K (.int i) n) := pd_of pe_int fun H => .int (farOk h).1
theorem pd_b {X : Cx} {c : Bool} {k n : Nat} {p : Pos} : PE X (.Constant (.bool c) k p) (tDt X.K (.bl c) n) := pd_of pe_bl fun H => .bl c
theorem pd_n {X : Cx} {k n : Nat} {p : Pos} : PE X (.Constant .none k p) (tDt X.K .non n) := pd_of pe_non fun H => .non
theorem ok_odd {f : Addr} {fd fdP : FuncData} (F : Fun K "_law_odd" "_law_odd" sOddL f fd) (T : TxtL K mg fD fP) (GP : FnOk P w K mg base CX0 2 fP fdP ["_law_source_here", "_law_items"] (spPick K)) (bP : Binds K fdP ["_law_source_here", "_law_items"] []) : FnOk P w K mg base CX0 3 f fd ["_law_source_here"] (spOdd K) := by
  refine F.ok scOdd (fun vs H Q E h => ?_) (fun cdv A outer s H vs Q E hr h => ?_)
  · obtain ⟨s, l, ms, z, b, rfl, _⟩ := h
    rfl
  · obtain ⟨a, l, ms, z, b, rfl, hs, b0, b1, k⟩ := h
    refine ⟨_, pss_cons (ps_set (i := 1) scOdd.nd rfl (Or.inl rfl) (pe_lst (pd_cons (n := 2) (ts := odds.drop 1) pd_n (pd_cons pd_b (pd_cons pd_b (pd_cons (pd_i (by decide)) (pd_cons (pd_i (by decide))
        (pd_cons (pd_s (by decide +kernel) (by decide +kernel)) (pd_cons (pd_s (by decide +kernel) (by decide +kernel)) (pd_cons (pd_s (by decide +kernel) (by decide +kernel)) (pd_cons (pd_s (by decide +kernel) (by decide +kernel))
        (pd_cons (pd_tup pd_nil (by decide)) (pd_cons (pd_lst pd_nil (by decide)) (pd_cons pd_dict (pd_cons (pd_tup (n := 1) (pd_cons (pd_s (by decide +kernel) (by decide +kernel)) pd_nil) (by decide))
        (pd_cons (pd_lst (n := 1) (pd_cons (pd_s (by decide +kernel) (by decide +kernel)) pd_nil) (by decide)) (pd_cons (pd_tup (n := 1) (pd_cons (pd_s (by decide +kernel) (by decide +kernel)) pd_nil) (by decide))
        (pd_cons (by exact (PE.wk (pe_op op_pow pe_int pe_int) fun σ H Q h => ⟨_, _, rfl, rfl, ⟨by decide, by decide, by decide⟩, h (.int (10 ^ 39)) H (Same.refl H) (.int (farOk (by decide)).1)⟩)) (pd_cons (pd_s (by decide +kernel) (by decide +kernel)) pd_nil)))))))))))))))))))
      (pss_one (ps_ret (pe_call GP hr rfl T.gP T.kP bP .nil pass0 (pa_cons (pv 0) (pa_cons (pv 1) pa_nil))))), ?_⟩
    refine fun vs H2 s2 ds => ⟨by rw [ds.length]; decide, fun q hq => ?_⟩
    refine ⟨_, rfl, _, rfl, pick_data (E := E0) hs b0 (by omega) s2 ds hq (by decide) (by decide) fun H' ms' v t k1 hs1 mem d => k H' ms' v t k1 hs1 d (odds_w t mem)⟩
end
/-! a change as data -/
def deedL (kd nm : Str) (us : List Row) : List Tr := .str kd :: .str nm :: us.map rowT
theorem rdp {K : PySem.W.Frag} {H : Hp} {s l : Addr} {ms : List Int} {z b : Int} (hs : Src H s l ms z b) {v : V} {r : Row} (h : RwAt H v r) (sm : ∀ c ∈ r, smallC c = true) : DP K H (Off s l) v (rowT r) 1 := by
  obtain ⟨p, o, rfl, e, d⟩ := h
  refine ⟨[p], .tup e d (cells_dt sm) List.not_mem_nil, fun c m => ?_⟩
  rw [List.mem_singleton.mp m]
  exact ⟨fun q => (by rw [q, hs.hs] at e; cases e), fun q => (by rw [q, hs.hl] at e; cases e)⟩
theorem rdps {K : PySem.W.Frag} {H : Hp} {s l : Addr} {ms : List Int} {z b : Int} (hs : Src H s l ms z b) : ∀ {xs : List V} {us : List Row}, RowsAt H xs us → (∀ r ∈ us, ∀ c ∈ r, smallC c = true) → DPs K H (Off s l) xs (us.map rowT) 1
  | _, _, .nil, _ => .nil
  | _, _, .cons h t, sm => .cons (rdp hs h (sm _ List.mem_cons_self)) (rdps hs t fun r m => sm r (List.mem_cons_of_mem _ m))
theorem kd_text {kd : Str} {n : Nat} (h : lenV kd = .int ((n + 2 : Nat) : Int)) : (reprText kd).length ≤ 20 ∧ kd.length ≤ 20 ∧ (n = 1 ∨ n = 2) := by
  rcases lenV_cases h with ⟨e, ln⟩ | ⟨e, ln⟩ | ⟨e, ln⟩ <;> subst e
  · exact ⟨by decide +kernel, by decide +kernel, .inl ln⟩
  · exact ⟨by decide +kernel, by decide +kernel, .inl ln⟩
  · exact ⟨by decide +kernel, by decide +kernel, .inr ln⟩
theorem DeedAt.dp {K : PySem.W.Frag} {H : Hp} {s l p : Addr} {ms : List Int} {z b : Int} {kd nm : Str} {us : List Row} (hs : Src H s l ms z b) (h : DeedAt H p kd nm us) (hn : nmS nm = true) (sm : ∀ r ∈ us, ∀ c ∈ r, smallC c = true) (hk : lenV kd = .int ((us.length + 2 : Nat) : Int)) :
    DP K H (Off s l) (.ref p) (.tup (deedL kd nm us)) 2 := by
  obtain ⟨o, xs, e, d, r⟩ := h
  obtain ⟨k1, k2, k3⟩ := kd_text hk
  have rows : ∀ {xs : List V} {us : List Row}, RowsAt H xs us → (∀ r ∈ us, ∀ c ∈ r, smallC c = true) → ∃ bs, DtAll K H xs (us.map rowT) 1 bs ∧ ∀ c ∈ bs, ∃ o' r', H c = some (.frz o' (.tup ((r' : Row).map Cell.v))) := by
    intro xs us h
    induction h with
    | nil => exact fun _ => ⟨[], .nil, (fun _ m => nomatch m)⟩
    | cons h t ih =>
      intro sm
      obtain ⟨bs, x1, x2⟩ := ih fun r m => sm r (List.mem_cons_of_mem _ m)
      obtain ⟨q, o', rfl, e', d'⟩ := h
      refine ⟨[q] ++ bs, .cons (.tup e' d' (cells_dt (sm _ List.mem_cons_self)) List.not_mem_nil) x1, fun c m => ?_⟩
      rcases List.mem_append.mp m with m | m
      · rw [List.mem_singleton.mp m]
        exact ⟨o', _, e'⟩
      · exact x2 c m
  obtain ⟨bs, x1, x2⟩ := rows r sm
  have b1 := (nm_text hn).1
  have b2 := (nm_text hn).2
  refine ⟨p :: ([] ++ ([] ++ bs)), .tup e d (.cons (.str (Nat.le_trans k1 (by decide)) (Nat.le_trans k2 (by decide))) (.cons (.str (Nat.le_trans b1 (by decide)) (Nat.le_trans b2 (by decide))) x1)) fun m => ?_, fun c m => ?_⟩
  · obtain ⟨o', r', e'⟩ := x2 p m
    rw [e] at e'
    have e2 := (HO.frz.inj (Option.some.inj e')).2
    have e3 : V.str kd :: V.str nm :: xs = r'.map Cell.v := by
      injection e2
    have l0 : 0 < xs.length := by
      rw [r.length]
      omega
    obtain ⟨x, hx⟩ := List.exists_mem_of_length_pos l0
    have hx2 : x ∈ r'.map Cell.v := by
      rw [← e3]
      exact List.mem_cons_of_mem _ (List.mem_cons_of_mem _ hx)
    obtain ⟨c, _, rfl⟩ := List.mem_map.mp hx2
    obtain ⟨i, hi⟩ := List.mem_iff_getElem?.mp hx
    obtain ⟨y, _, pp, _, e5, _⟩ := each_get r hi
    cases c <;> cases e5
  · have off : ∀ {c : Addr} {o : Obj} {xs : List V}, H c = some (.frz o (.tup xs)) → Off s l c := fun {c o xs} e => ⟨fun q => (by rw [q, hs.hs] at e; cases e), fun q => (by rw [q, hs.hl] at e; cases e)⟩
    rcases List.mem_cons.mp m with m | m
    · rw [m]
      exact off e
    · obtain ⟨o', r', e'⟩ := x2 c m
      exact off e'
theorem deed_w {t : Ti} {kd : Str} {us : List Row} (g : t.ok) (rk : ∀ r ∈ us, Rk t r) (hk : lenV kd = .int ((us.length + 2 : Nat) : Int)) : ws (deedL kd t.nm us) ≤ 1000 := by
  obtain ⟨k1, k2, k3⟩ := kd_text hk
  have h : ∀ us : List Row, (∀ r ∈ us, Rk t r) → ws (us.map rowT) ≤ 422 * us.length := by
    intro us
    induction us with
    | nil => exact fun _ => Nat.zero_le _
    | cons r us ih =>
      intro rk
      have h1 := (rk r List.mem_cons_self).w g
      have h2 := ih fun r m => rk r (List.mem_cons_of_mem _ m)
      show ((rowT r).w + 2) + ws (us.map rowT) ≤ 422 * (us.length + 1)
      omega
  have h1 := h us rk
  have b1 := (nm_text g.n1).1
  show ((reprText kd).length + 2) + (((reprText t.nm).length + 2) + ws (us.map rowT)) ≤ 1000
  rcases k3 with e | e <;> rw [e] at h1 <;> omega
/-- the last item of a change -/
theorem deed_last {H : Hp} {xs : List V} {us : List Row} {x y : V} (r : RowsAt H xs us) (n : us.length = 1 ∨ us.length = 2) : ∃ v o, atI (x :: y :: xs) (-1) = some v ∧ RwAt H v o ∧ o ∈ us := by
  cases r with
  | nil =>
    have : ([] : List Row).length = 0 := rfl
    omega
  | cons h t =>
    cases t with
    | nil => exact ⟨_, _, rfl, h, List.mem_cons_self⟩
    | cons h2 t2 =>
      cases t2 with
      | nil => exact ⟨_, _, rfl, h2, List.mem_cons_of_mem _ List.mem_cons_self⟩
      | cons h3 t3 =>
        rename_i a2 b2 _ _ _ _
        simp only [List.length_cons] at n
        omega
end Vm
/-! the law: a change that is bent -/
namespace Vm
open PySem L2
abbrev sBent : Stmt := top 58
theorem ws_cut (ts : List Tr) (lo hi : Option Int) : ws (cutL ts lo hi) ≤ ws ts := by
  unfold cutL
  have h1 := ws_split ts (HT.sIx ts.length 0 lo)
  have h2 := ws_split (ts.drop (HT.sIx ts.length 0 lo)) (HT.sIx ts.length ts.length hi - HT.sIx ts.length 0 lo)
  omega
theorem cutL_len {α : Type} (ts : List α) (lo hi : Option Int) : (cutL ts lo hi).length ≤ ts.length := by
  unfold cutL
  rw [List.length_take, List.length_drop]
  omega
def sixW : List Str := ["insert", "delete", "replace", "Insert", "put", ""]
theorem sixW_ok : ∀ x ∈ sixW, (reprText x).length ≤ 20 ∧ x.length ≤ 20 := by
  intro x h
  unfold sixW at h
  simp only [List.mem_cons, List.not_mem_nil, or_false] at h
  rcases h with e | e | e | e | e | e <;> subst e <;> decide +kernel
def spBent (K : PySem.W.Frag) : Sp := fun vs H Q _ => ∃ (s l p : Addr) (ms : List Int) (z b : Int) (kd : Str) (ti : Ti) (us : List Row), vs = [.ref s, .ref p] ∧ Src H s l ms z b ∧ 0 ≤ b ∧ b < 700000 ∧ DeedAt H p kd ti.nm us ∧ ti.ok ∧ (∀ r ∈ us, Rk ti r) ∧ lenV kd = .int ((us.length + 2 : Nat) : Int) ∧
  ∀ (H' : Hp) (ms' : List Int) (b' : Int) (v : V) (t : Tr), But s l H H' → Src H' s l ms' z b' → b ≤ b' → b' ≤ b + 30 → DP K H' (Off s l) v t 4 → t.w ≤ 5000 → Q v H'
section
variable {P : Program} {w : World} {K : PySem.W.Frag} {mg : Str → Option Value} {base : Heap} {fD fP fO : Addr}
theorem scBent : FnScope ["_law_source_here", "_law_deed", "_law_way", "_law_at", "_law_spot", "_law_row_here", "_law_other"] ["_law_source_here", "_law_deed"] (defScope sBent) := ⟨rfl, rfl, rfl, by decide +kernel, rfl, by decide +kernel, by decide +kernel⟩
theorem ok_bent {f : Addr} {fd fdD fdP fdO : FuncData} (F : Fun K "_law_bent" "_law_bent" sBent f fd) (T : TxtL K mg fD fP) (GD : FnOk P w K mg base CX0 1 fD fdD ["_law_source_here", "_law_many"] spDraw) (bD : Binds K fdD ["_law_source_here", "_law_many"] [])
    (GP : FnOk P w K mg base CX0 2 fP fdP ["_law_source_here", "_law_items"] (spPick K)) (bP : Binds K fdP ["_law_source_here", "_law_items"] [])
    (cO : Calls K mg "_law_odd" fO) (GO : FnOk P w K mg base CX0 3 fO fdO ["_law_source_here"] (spOdd K)) (bO : Binds K fdO ["_law_source_here"] []) :
    FnOk P w K mg base CX0 4 f fd ["_law_source_here", "_law_deed"] (spBent K) := by
  refine F.ok scBent (fun vs H Q E h => ?_) (fun cdv A outer s H vs Q E hr h => ?_)
  · obtain ⟨s, l, p, ms, z, b, kd, ti, us, rfl, _⟩ := h
    rfl
  · obtain ⟨a, l, p, ms, z, b, kd, ti, us, rfl, hs, b0, b1, deed, g, rk, hk, k⟩ := h
    have hr1 : Room 1 _ := hr.mono (by decide)
    have hr2 : Room 2 _ := hr.mono (by decide)
    have big : sizeLine > 100000 := by decide
    refine ⟨_, pss_cons (ps_par (i := 2) (j := 3) rfl scBent.nd rfl rfl (by decide) rfl rfl (pa_cons (pe_call GD hr1 rfl T.gD T.kD bD .nil pass0 (pa_cons (pv 0) (pa_cons pe_int pa_nil)))
          (pa_cons (pe_call GD hr1 rfl T.gD T.kD bD .nil pass0 (pa_cons (pv 0) (pa_cons (pe_callB call_len_seq (by rfl) T.len (by decide +kernel) (pa_cons (pv 1) pa_nil)) pa_nil))) pa_nil)) (by rfl))
      (pss_cons (ps_if (pt_cmpR op_eq (pv 2) pe_int (nomark _)) (pss_one (ps_ret (pe_call GO hr rfl cO.g cO.k bO .nil pass0 (pa_cons (pv 0) pa_nil)))) pss_nil)
      (pss_cons (ps_if (pt_cmpR op_eq (pv 2) pe_int (nomark _)) (pss_one (ps_ret (pe_op op_catD (pe_slice sl_D (pv 1) po_none (po_some (pv 3))) (pe_slice sl_D (pv 1) (po_some (pe_op op_add (pv 3) pe_int)) po_none)))) pss_nil)
      (pss_cons (ps_if (pt_cmpR op_eq (pv 2) pe_int (nomark _)) (pss_one (ps_ret (pe_op op_catD (pe_slice sl_D (pv 1) po_none (po_some (pe_op op_add (pv 3) pe_int))) (pe_slice sl_D (pv 1) (po_some (pv 3)) po_none)))) pss_nil)
      (pss_cons (ps_if (pt_cmpR op_eq (pv 2) pe_int (nomark _)) (pss_one (ps_ret (pe_callTy call_listD (by rfl) T.list (by decide +kernel) (pa_cons (pv 1) pa_nil)))) pss_nil)
      (pss_cons (ps_if (pt_cmpR op_eq (pv 2) pe_int (nomark _)) (pss_one (ps_ret (pe_op op_catD (pe_tupF (pa_cons (pe_call GP hr2 rfl T.gP T.kP bP .nil pass0 (pa_cons (pv 0) (pa_cons (pe_lst (pa_cons pe_str (pa_cons pe_str (pa_cons pe_str (pa_cons pe_str (pa_cons pe_str (pa_cons pe_str pa_nil))))))) pa_nil))) pa_nil))
          (pe_slice sl_D (pv 1) (po_some pe_int) po_none)))) pss_nil)
      (pss_cons (ps_if (pt_cmpR op_eq (pv 2) pe_int (nomark _)) (pss_cons (ps_set (i := 4) scBent.nd rfl (Or.inl rfl) (pe_call GP hr2 rfl T.gP T.kP bP .nil pass0 (pa_cons (pv 0) (pa_cons (pe_lst (pd_cons (n := 2) (ts := spots.drop 1) (pd_s (by decide +kernel) (by decide +kernel))
            (pd_cons (pd_s (by decide +kernel) (by decide +kernel)) (pd_cons (pd_s (by decide +kernel) (by decide +kernel)) (pd_cons (pd_s (by decide +kernel) (by decide +kernel)) (pd_cons (pd_s (by decide +kernel) (by decide +kernel)) (pd_cons pd_n
            (pd_cons (pd_tup (n := 1) (pd_cons (pd_s (by decide +kernel) (by decide +kernel)) pd_nil) (by decide)) (pd_cons (pd_lst (n := 1) (pd_cons (pd_s (by decide +kernel) (by decide +kernel)) pd_nil) (by decide)) (pd_cons (pd_i (by decide)) (pd_cons pd_b pd_nil))))))))))) pa_nil))))
          (pss_one (ps_ret (pe_op op_catD (pe_op op_catD (pe_slice sl_D (pv 1) po_none (po_some pe_int)) (pe_tupF (pa_cons (pv 4) pa_nil))) (pe_slice sl_D (pv 1) (po_some pe_int) po_none))))) pss_nil)
      (pss_cons (ps_set (i := 5) scBent.nd rfl (Or.inl rfl) (pe_ix ix_tup (pv 1) (pe_un un_neg pe_int) (fun _ _ => rfl)))
      (pss_cons (ps_set (i := 4) scBent.nd rfl (Or.inl rfl) (pe_call GD hr1 rfl T.gD T.kD bD .nil pass0 (pa_cons (pv 0) (pa_cons (pe_op op_add (pe_callB call_len_seq (by rfl) T.len (by decide +kernel) (pa_cons (pv 5) pa_nil)) pe_int) pa_nil))))
      (pss_cons (ps_set (i := 6) scBent.nd rfl (Or.inl rfl) (pe_lst
          (pa_cons (pe_op op_catD (pe_op op_catD (pe_slice sl_D (pv 5) po_none (po_some (pv 4))) (pe_tupF (pa_cons (pe_call GO hr rfl cO.g cO.k bO .nil pass0 (pa_cons (pv 0) pa_nil)) pa_nil))) (pe_slice sl_D (pv 5) (po_some (pe_op op_add (pv 4) pe_int)) po_none))
          (pa_cons (pe_callTy call_listD (by rfl) T.list (by decide +kernel) (pa_cons (pv 5) pa_nil))
          (pa_cons (pe_op op_catD (pe_op op_catD (pe_slice sl_D (pv 5) po_none (po_some (pv 4))) (pe_tupF (pa_cons pe_bl pa_nil))) (pe_slice sl_D (pv 5) (po_some (pe_op op_add (pv 4) pe_int)) po_none)) pa_nil)))))
      (pss_one (ps_ret (pe_op op_catD (pe_slice sl_D (pv 1) po_none (po_some (pe_un un_neg pe_int))) (pe_tupF (pa_cons (pe_ix ix_list (pv 6) (pe_op op_sub (pv 2) pe_int) (fun _ _ => rfl)) pa_nil)))))))))))))), ?_⟩
    have ln : us.length = 1 ∨ us.length = 2 := (kd_text hk).2.2
    have wd := deed_w g rk hk
    have wl := ws_len (deedL kd ti.nm us)
    have d0 : DP K H (Off a l) (.ref p) (.tup (deedL kd ti.nm us)) 4 := (deed.dp hs g.n1 (fun r m => (rk r m).sm) hk).lvl (by decide)
    generalize hts : deedL kd ti.nm us = ts at wd wl d0
    have lts : ts.length = us.length + 2 := by
      rw [← hts]
      show (us.map rowT).length + 1 + 1 = _
      rw [List.length_map]
    have few : ∀ lo hi, (cutL ts lo hi).length ≤ 500 := fun lo hi => by
      have := cutL_len ts lo hi
      omega
    obtain ⟨od, xs, hp, hod, hxs⟩ := deed
    have lx : xs.length = us.length := hxs.length
    refine ⟨_, rfl, a, l, ms, z, b, 9, rfl, hs, by decide, by decide, b0, by omega, fun H1 ms1 way k1 hs1 w0 w9 => ?_⟩
    refine ⟨_, rfl, _, rfl, p, _, rfl, .inr (.inl (.inr ⟨od, k1.fz hs _ _ _ hp⟩)), a, l, ms1, z, b + 1, _, rfl, hs1, by show (0 : Int) < ((xs.length + 1 + 1 : Nat) : Int); omega, by show ((xs.length + 1 + 1 : Nat) : Int) ≤ 1000000; omega, by omega, by omega, fun H2 ms2 at_ k2 hs2 p2 q2 => ⟨_, _, rfl, ?_⟩⟩
    have k02 := k1.trans k2
    have d2 := d0.but k02
    have hp2 : SqT K H2 p (.str kd :: .str ti.nm :: xs) := .inl (.inr ⟨od, k02.fz hs _ _ _ hp⟩)
    have fin : ∀ {H3 : Hp} {ms3 : List Int} {b3 : Int} {v : V} {t : Tr}, But a l H2 H3 → Src H3 a l ms3 z b3 → b ≤ b3 → b3 ≤ b + 30 → DP K H3 (Off a l) v t 4 → t.w ≤ 5000 → Q v H3 := fun {H3 ms3 b3 v t} kk hh c1 c2 d w => k H3 ms3 b3 v t (k02.trans kk) hh c1 c2 d w
    have wt : (Tr.tup ts).w = 3 + ws ts := rfl
    refine ⟨_, rfl, rfl, _, rfl, ite2 (fun e => ?_) (fun e0 => ?_)⟩
    · exact ⟨_, rfl, a, l, ms2, z, b + 1 + 1, rfl, hs2, by omega, by omega, fun H3 ms3 v t k3 hs3 d w => fin k3 hs3 (by omega) (by omega) ((d.imp (Q := Off a l) fun c e => e.1).lvl (by decide)) (by omega)⟩
    refine ⟨_, rfl, rfl, _, rfl, ite2 (fun e => ?_) (fun e1 => ?_)⟩
    · refine ⟨_, rfl, _, rfl, at_, rfl, Off a l, ts, 3, d2, hs2.off, fun v3 H3 s3 d3 => ?_⟩
      have hs3 := hs2.but s3
      refine ⟨_, rfl, _, rfl, _, _, rfl, rfl, _, rfl, Off a l, ts, 3, d2.same s3, hs3.off, fun v4 H4 s4 d4 => ?_⟩
      have hs4 := hs3.but s4
      refine ⟨Off a l, _, _, 3, d3.same s4, d4, ?_, hs4.off, fun v5 H5 s5 d5 => ?_⟩
      · have h1 := few none (some at_)
        have h2 := few (some (at_ + 1)) none
        show (cutL ts none (some at_)).length + (cutL ts (some (at_ + 1)) none).length ≤ sizeLine
        omega
      refine fin (.of_same ((s3.trans s4).trans s5)) (hs4.but s5) (by omega) (by omega) d5 ?_
      have h1 := ws_cut ts none (some at_)
      have h2 := ws_cut ts (some (at_ + 1)) none
      show 3 + ws (cutL ts none (some at_) ++ cutL ts (some (at_ + 1)) none) ≤ 5000
      rw [ws_append]
      omega
    refine ⟨_, rfl, rfl, _, rfl, ite2 (fun e => ?_) (fun e2 => ?_)⟩
    · refine ⟨_, rfl, _, rfl, _, _, rfl, rfl, _, rfl, Off a l, ts, 3, d2, hs2.off, fun v3 H3 s3 d3 => ?_⟩
      have hs3 := hs2.but s3
      refine ⟨_, rfl, _, rfl, at_, rfl, Off a l, ts, 3, d2.same s3, hs3.off, fun v4 H4 s4 d4 => ?_⟩
      have hs4 := hs3.but s4
      refine ⟨Off a l, _, _, 3, d3.same s4, d4, ?_, hs4.off, fun v5 H5 s5 d5 => ?_⟩
      · have h1 := few none (some (at_ + 1))
        have h2 := few (some at_) none
        show (cutL ts none (some (at_ + 1))).length + (cutL ts (some at_) none).length ≤ sizeLine
        omega
      refine fin (.of_same ((s3.trans s4).trans s5)) (hs4.but s5) (by omega) (by omega) d5 ?_
      have h1 := ws_cut ts none (some (at_ + 1))
      have h2 := ws_cut ts (some at_) none
      show 3 + ws (cutL ts none (some (at_ + 1)) ++ cutL ts (some at_) none) ≤ 5000
      rw [ws_append]
      omega
    refine ⟨_, rfl, rfl, _, rfl, ite2 (fun e => ?_) (fun e3 => ?_)⟩
    · exact ⟨_, rfl, Off a l, _, ts, 3, rfl, d2, hs2.off, fun v3 H3 s3 d3 => fin (.of_same s3) (hs2.but s3) (by omega) (by omega) d3 (by show 3 + ws ts ≤ 5000; omega)⟩
    refine ⟨_, rfl, rfl, _, rfl, ite2 (fun e => ?_) (fun e4 => ?_)⟩
    · refine ⟨_, rfl, by show 6 ≤ sizeLine; omega, fun q hq => ?_⟩
      have fq := hs2.free hq
      refine ⟨a, l, .ref q, ms2, z, b + 1 + 1, rfl, hs2.put fq, by omega, by omega, .inl ⟨q, sixW.map V.str, rfl, fun H' kk => SqL.of (kk _ _ fq.1 fq.2 upd_same), by decide, by decide, fun H3 ms3 v k3 hs3 hv => ⟨by show 1 ≤ sizeLine; omega, fun p5 o5 hp5 ho5 => ?_⟩⟩⟩
      obtain ⟨x, hx, rfl⟩ := List.mem_map.mp hv
      obtain ⟨x1, x2⟩ := sixW_ok x hx
      have k23 : But a l H2 H3 := (But.put (fun _ _ _ _ e => e) hq).trans k3
      have d5 : DP K (upd H3 p5 (.frz o5 (.tup [V.str x]))) (Off a l) (.ref p5) (.tup [.str x]) 4 := (DPs.cons (DP.str (Nat.le_trans x1 (by decide)) (Nat.le_trans x2 (by decide))) .nil).tup hp5 (hs3.off p5 hp5) ho5
      have s5 := same_upd (o := .frz o5 (.tup [V.str x])) hp5
      have k25 := k23.trans (.of_same (s := a) (l := l) s5)
      have hs5 := hs3.but s5
      have d25 := d2.but k25
      refine ⟨_, rfl, 1, rfl, Off a l, ts, 3, d25, hs5.off, fun v6 H6 s6 d6 => ?_⟩
      refine ⟨Off a l, _, _, 3, d5.same s6, d6, ?_, (hs5.but s6).off, fun v7 H7 s7 d7 => ?_⟩
      · have h2 := few (some 1) none
        show 1 + (cutL ts (some 1) none).length ≤ sizeLine
        omega
      refine fin (k25.trans (.of_same (s6.trans s7))) ((hs5.but s6).but s7) (by omega) (by omega) d7 ?_
      have h2 := ws_cut ts (some 1) none
      show 3 + (((reprText x).length + 2) + ws (cutL ts (some 1) none)) ≤ 5000
      omega
    refine ⟨_, rfl, rfl, _, rfl, ite2 (fun e => ?_) (fun e5 => ?_)⟩
    · refine ⟨_, rfl, fun vs H3 s3 ds => ⟨by rw [ds.length]; decide, fun q hq => ?_⟩⟩
      refine pick_data (E := E0) hs2 (by omega) (by omega) s3 ds hq (by decide) (by decide) fun H4 ms4 v t k4 hs4 mem dv => ?_
      have wv := spots_w t mem
      have dv := dv.imp (Q := Off a l) fun c e => e.1
      have d4 := d2.but k4
      refine ⟨_, rfl, 1, rfl, Off a l, ts, 3, d4, hs4.off, fun v5 H5 s5 d5 => ⟨_, rfl, by show 1 ≤ sizeLine; omega, fun p6 o6 hp6 ho6 => ?_⟩⟩
      have hs5 := hs4.but s5
      have d6 : DP K (upd H5 p6 (.frz o6 (.tup [v]))) (Off a l) (.ref p6) (.tup [t]) 4 := (DPs.cons ((dv.same s5).lvl (by decide : 2 ≤ 3)) .nil).tup hp6 (hs5.off p6 hp6) ho6
      have s6 := same_upd (o := .frz o6 (.tup [v])) hp6
      have hs6 := hs5.but s6
      have d56 := d5.same s6
      generalize upd H5 p6 (.frz o6 (.tup [v])) = H6 at s6 d6 hs6 d56 ⊢
      refine ⟨Off a l, _, _, 3, d56, d6, ?_, hs6.off, fun v7 H7 s7 d7 => ?_⟩
      · have h2 := few none (some 1)
        show (cutL ts none (some 1)).length + 1 ≤ sizeLine
        omega
      have s47 := (s5.trans s6).trans s7
      have hs7 := hs6.but s7
      refine ⟨_, rfl, 2, rfl, Off a l, ts, 3, d4.same s47, hs7.off, fun v8 H8 s8 d8 => ?_⟩
      refine ⟨Off a l, _, _, 3, d7.same s8, d8, ?_, (hs7.but s8).off, fun v9 H9 s9 d9 => ?_⟩
      · have h1 := few none (some 1)
        have h2 := few (some 2) none
        show (cutL ts none (some 1) ++ [t]).length + (cutL ts (some 2) none).length ≤ sizeLine
        rw [List.length_append]
        show (cutL ts none (some 1)).length + 1 + (cutL ts (some 2) none).length ≤ sizeLine
        omega
      refine fin (k4.trans (.of_same ((s47.trans s8).trans s9))) ((hs7.but s8).but s9) (by omega) (by omega) d9 ?_
      have h1 := ws_cut ts none (some 1)
      have h2 := ws_cut ts (some 2) none
      show 3 + ws ((cutL ts none (some 1) ++ [t]) ++ cutL ts (some 2) none) ≤ 5000
      rw [ws_append, ws_append]
      show 3 + (ws (cutL ts none (some 1)) + ((t.w + 2) + 0) + ws (cutL ts (some 2) none)) ≤ 5000
      omega
    -- a row that is bent
    obtain ⟨x, r, hlast, hx, mem⟩ := deed_last (x := V.str kd) (y := V.str ti.nm) hxs ln
    have rkr := rk r mem
    have wr : 3 + ws (r.map Cell.t) ≤ 420 := rkr.w g
    have wlr := ws_len (r.map Cell.t)
    have hx2 := hx.keep (k02.fz hs)
    have dr2 : DP K H2 (Off a l) x (.tup (r.map Cell.t)) 3 := (rdp hs2 hx2 rkr.sm).lvl (by decide)
    obtain ⟨pr, opr, rfl, hpr, hprd⟩ := hx2
    generalize r.map Cell.t = rt at wr wlr dr2
    have lrc : r.length ≤ 4 := by
      have h1 := rkr.ok.len
      have := g.l2
      have := g.l3
      omega
    refine ⟨_, rfl, _, rfl, p, _, -1, .ref pr, rfl, rfl, hp2, hlast, ?_⟩
    refine ⟨_, rfl, _, rfl, pr, _, rfl, .inr (.inl (.inr ⟨opr, hpr⟩)), _, _, rfl, rfl, a, l, ms2, z, b + 1 + 1, _, rfl, hs2, by show (0 : Int) < ((r.map Cell.v).length : Int) + 1; omega, by show ((r.map Cell.v).length : Int) + 1 ≤ 1000000; rw [List.length_map]; omega, by omega, by omega, fun H3 ms3 spot k3 hs3 _ _ => ?_⟩
    have dr3 := dr2.but k3
    have cl : ∀ lo hi, (cutL rt lo hi).length ≤ 500 := fun lo hi => by
      have := cutL_len rt lo hi
      omega
    have cw := ws_cut rt none (some spot)
    have cw2 := ws_cut rt (some (spot + 1)) none
    have cl1 := cl none (some spot)
    have cl2 := cl (some (spot + 1)) none
    refine ⟨_, rfl, _, rfl, spot, rfl, Off a l, rt, 2, dr3, hs3.off, fun v4 H4 s4 d4 => ?_⟩
    have hs4 := hs3.but s4
    refine ⟨_, rfl, a, l, ms3, z, b + 1 + 1 + 1, rfl, hs4, by omega, by omega, fun H5 ms5 v5 t5 k5 hs5 d5 w5 => ⟨by show 1 ≤ sizeLine; omega, fun p6 o6 hp6 ho6 => ?_⟩⟩
    have d6 : DP K (upd H5 p6 (.frz o6 (.tup [v5]))) (Off a l) (.ref p6) (.tup [t5]) 3 := (DPs.cons (d5.imp (Q := Off a l) fun c e => e.1) .nil).tup hp6 (hs5.off p6 hp6) ho6
    have s6 := same_upd (o := .frz o6 (.tup [v5])) hp6
    have hs6 := hs5.but s6
    have k36 : But a l H3 (upd H5 p6 (.frz o6 (.tup [v5]))) := ((But.of_same s4).trans k5).trans (.of_same s6)
    have d46 := (d4.but k5).same s6
    generalize upd H5 p6 (.frz o6 (.tup [v5])) = H6 at s6 d6 hs6 k36 d46 ⊢
    have dr6 := dr3.but k36
    refine ⟨Off a l, _, _, 2, d46, d6, by show (cutL rt none (some spot)).length + 1 ≤ sizeLine; omega, hs6.off, fun v7 H7 s7 d7 => ?_⟩
    have hs7 := hs6.but s7
    refine ⟨_, rfl, _, rfl, _, _, rfl, rfl, _, rfl, Off a l, rt, 2, dr6.same s7, hs7.off, fun v8 H8 s8 d8 => ?_⟩
    have hs8 := hs7.but s8
    refine ⟨Off a l, _, _, 2, d7.same s8, d8, ?_, hs8.off, fun v9 H9 s9 d9 => ?_⟩
    · show (cutL rt none (some spot) ++ [t5]).length + (cutL rt (some (spot + 1)) none).length ≤ sizeLine
      rw [List.length_append]
      show (cutL rt none (some spot)).length + 1 + (cutL rt (some (spot + 1)) none).length ≤ sizeLine
      omega
    have s69 := (s7.trans s8).trans s9
    have hs9 := hs8.but s9
    -- as a list
    refine ⟨_, rfl, Off a l, _, rt, 2, rfl, dr6.same s69, hs9.off, fun va Ha sa da => ?_⟩
    have hsa := hs9.but sa
    have s6a := s69.trans sa
    -- with a bool
    refine ⟨_, rfl, _, rfl, spot, rfl, Off a l, rt, 2, dr6.same s6a, hsa.off, fun vb Hb sb db => ⟨by show 1 ≤ sizeLine; omega, fun pc oc hpc hoc => ?_⟩⟩
    have hsb := hsa.but sb
    have dc : DP K (upd Hb pc (.frz oc (.tup [V.bl true]))) (Off a l) (.ref pc) (.tup [.bl true]) 3 := (DPs.cons (.bl true) .nil).tup hpc (hsb.off pc hpc) hoc
    have sc := same_upd (o := .frz oc (.tup [V.bl true])) hpc
    have hsc := hsb.but sc
    have dbc := db.same sc
    generalize upd Hb pc (.frz oc (.tup [V.bl true])) = Hc at sc dc hsc dbc ⊢
    refine ⟨Off a l, _, _, 2, dbc, dc, by show (cutL rt none (some spot)).length + 1 ≤ sizeLine; omega, hsc.off, fun vd Hd sd dd => ?_⟩
    have hsd := hsc.but sd
    have sad := (sb.trans sc).trans sd
    refine ⟨_, rfl, _, rfl, _, _, rfl, rfl, _, rfl, Off a l, rt, 2, (dr6.same s6a).same sad, hsd.off, fun ve He se de => ?_⟩
    have hse := hsd.but se
    refine ⟨Off a l, _, _, 2, dd.same se, de, ?_, hse.off, fun vf Hf sf df => ⟨by show 3 ≤ sizeLine; omega, fun q hq => ?_⟩⟩
    · show (cutL rt none (some spot) ++ [Tr.bl true]).length + (cutL rt (some (spot + 1)) none).length ≤ sizeLine
      rw [List.length_append]
      show (cutL rt none (some spot)).length + 1 + (cutL rt (some (spot + 1)) none).length ≤ sizeLine
      omega
    have saf := (sad.trans se).trans sf
    have sq := same_upd (o := .lst [v9, va, vf]) hq
    have eq : upd Hf q (.lst [v9, va, vf]) q = some (.lst [v9, va, vf]) := upd_same
    have s6q := (s6a.trans saf).trans sq
    have D1 := ((d9.same sa).same saf).same sq
    have D2 := (da.same saf).same sq
    have D3 := df.same sq
    have hsq := ((hse.but sf)).but sq
    generalize upd Hf q (.lst [v9, va, vf]) = Hq at sq eq s6q D1 D2 D3 hsq ⊢
    have k2q : But a l H2 Hq := (k3.trans k36).trans (.of_same s6q)
    obtain ⟨vi, t', e', di, wi⟩ : ∃ vi t', atI [v9, va, vf] (way - 6) = some vi ∧ DP K Hq (Off a l) vi t' 3 ∧ t'.w ≤ 1200 := by
      have w3 : way = 6 ∨ way = 7 ∨ way = 8 := by
        have n : ∀ j : Int, ¬ decide (V.int way = V.int j) = true → way ≠ j := fun j h e => h (decide_eq_true (by rw [e]))
        have := n 0 e0
        have := n 1 e1
        have := n 2 e2
        have := n 3 e3
        have := n 4 e4
        have := n 5 e5
        omega
      rcases w3 with e | e | e <;> subst e
      · refine ⟨v9, _, rfl, D1, ?_⟩
        show 3 + ws ((cutL rt none (some spot) ++ [t5]) ++ cutL rt (some (spot + 1)) none) ≤ 1200
        rw [ws_append, ws_append]
        show 3 + (ws (cutL rt none (some spot)) + ((t5.w + 2) + 0) + ws (cutL rt (some (spot + 1)) none)) ≤ 1200
        omega
      · refine ⟨va, _, rfl, D2, ?_⟩
        show 3 + ws rt ≤ 1200
        omega
      · refine ⟨vf, _, rfl, D3, ?_⟩
        show 3 + ws ((cutL rt none (some spot) ++ [Tr.bl true]) ++ cutL rt (some (spot + 1)) none) ≤ 1200
        rw [ws_append, ws_append]
        show 3 + (ws (cutL rt none (some spot)) + ((5 + 2) + 0) + ws (cutL rt (some (spot + 1)) none)) ≤ 1200
        omega
    refine ⟨_, rfl, _, rfl, -1, rfl, Off a l, ts, 3, d2.but k2q, hsq.off, fun vg Hg sg dg => ?_⟩
    have hsg := hsq.but sg
    refine ⟨_, rfl, _, rfl, _, _, rfl, rfl, q, [v9, va, vf], way - 6, vi, rfl, rfl, SqL.of (sg _ _ eq), e', by show 1 ≤ sizeLine; omega, fun ph oh hph hoh => ?_⟩
    have dh : DP K (upd Hg ph (.frz oh (.tup [vi]))) (Off a l) (.ref ph) (.tup [t']) 4 := (DPs.cons (di.same sg) .nil).tup hph (hsg.off ph hph) hoh
    have sh := same_upd (o := .frz oh (.tup [vi])) hph
    have hsh := hsg.but sh
    refine ⟨Off a l, _, _, 3, dg.same sh, dh, ?_, hsh.off, fun vj Hj sj dj => ?_⟩
    · have h1 := few none (some (-1))
      show (cutL ts none (some (-1))).length + 1 ≤ sizeLine
      omega
    refine fin (k2q.trans (.of_same ((sg.trans sh).trans sj))) (hsh.but sj) (by omega) (by omega) dj ?_
    have h1 := ws_cut ts none (some (-1))
    show 3 + ws (cutL ts none (some (-1)) ++ [t']) ≤ 5000
    rw [ws_append]
    show 3 + (ws (cutL ts none (some (-1))) + ((t'.w + 2) + 0)) ≤ 5000
    omega
end
end Vm
/-! the law: what changes are -/
namespace Vm
open PySem L2
abbrev sIsChangeL : Stmt := top 61
theorem first_none {ts : List Ti} {nm : Str} (h : ∀ t ∈ ts, t.nm ≠ nm) : firstAt ts (.str nm) = none := by
  unfold firstAt
  rw [List.findIdx?_eq_none_iff]
  intro t m
  show (nm == t.nm) = false
  exact beq_eq_false_iff_ne.mpr fun e => h t m e.symm
theorem lenV_law {kd : Str} {n : Nat} : decide (lenV kd = .int ((n + 2 : Nat) : Int)) = (([insS, delS, repS].any fun x => x == kd) && decide (((n + 2 : Nat) : Int) = 3 + (if decide (kd = repS) = true then (1 : Int) else 0))) := by
  by_cases e1 : kd = insS
  · subst e1
    have a : lenV insS = .int 3 := by decide +kernel
    have b : ([insS, delS, repS].any fun x => x == insS) = true := by decide +kernel
    have c : decide (insS = repS) = false := by decide +kernel
    rw [a, b, c, if_neg Bool.false_ne_true, Bool.true_and]
    exact decide_eq_decide.mpr ⟨fun e => by have := V.int.inj e; omega, fun e => by congr 1; omega⟩
  by_cases e2 : kd = delS
  · subst e2
    have a : lenV delS = .int 3 := by decide +kernel
    have b : ([insS, delS, repS].any fun x => x == delS) = true := by decide +kernel
    have c : decide (delS = repS) = false := by decide +kernel
    rw [a, b, c, if_neg Bool.false_ne_true, Bool.true_and]
    exact decide_eq_decide.mpr ⟨fun e => by have := V.int.inj e; omega, fun e => by congr 1; omega⟩
  by_cases e3 : kd = repS
  · subst e3
    have b : ([insS, delS, repS].any fun x => x == repS) = true := by decide +kernel
    rw [lenV_rep, b, decide_eq_true rfl, if_pos rfl, Bool.true_and]
    exact decide_eq_decide.mpr ⟨fun e => by have := V.int.inj e; omega, fun e => by congr 1; omega⟩
  have a : lenV kd = .non := by
    unfold lenV
    rw [if_neg e1, if_neg (show ¬ kd = "delete" from e2), if_neg (show ¬ kd = "replace" from e3)]
  have b : ([insS, delS, repS].any fun x => x == kd) = false := by
    simp only [List.any_cons, List.any_nil, Bool.or_false, Bool.or_eq_false_iff, beq_eq_false_iff_ne]
    exact ⟨fun e => e1 e.symm, fun e => e2 e.symm, fun e => e3 e.symm⟩
  rw [a, b, Bool.false_and]
  exact decide_eq_false fun e => nomatch e
def spIsChangeL (K : PySem.W.Frag) : Sp := fun vs H Q _ => ∃ (w : Addr) (ps rls : List Addr) (ts : List Ti) (rss : List (List Row)) (v : V) (t : Tr) (n : Nat) (bs : List Addr), vs = [.ref w, v] ∧ Wl H w ps rls ts rss ∧ Wn ts ∧ Dt K H v t n bs ∧ t.w ≤ 10000 ∧ ∀ H', Same H H' → Q (.bl (isChg ts t)) H'
section
variable {P : Program} {w : World} {K : PySem.W.Frag} {mg : Str → Option Value} {base : Heap} {fNm fNms fR : Addr}
theorem scIsChangeL : FnScope ["_law_world_here", "_law_it", "_law_some", "_law_rows", "_law_row_here"] ["_law_world_here", "_law_it"] (defScope sIsChangeL) := ⟨rfl, rfl, rfl, by decide +kernel, rfl, by decide +kernel, by decide +kernel⟩
theorem ok_ischangel {f : Addr} {fd fdR : FuncData} (F : Fun K "_law_is_change" "_law_is_change" sIsChangeL f fd) (T : TxtP K mg fNm fNms) (cR : Calls K mg "_law_is_row" fR) (GR : FnOk P w K mg base CX0 2 fR fdR ["_law_some", "_law_it"] (spLRow K)) (bR : Binds K fdR ["_law_some", "_law_it"] []) :
    FnOk P w K mg base CX0 3 f fd ["_law_world_here", "_law_it"] (spIsChangeL K) := by
  refine F.ok scIsChangeL (fun vs H Q E h => ?_) (fun cdv A outer s H vs Q E hr h => ?_)
  · obtain ⟨w, ps, rls, ts, rss, v, t, n, bs, rfl, _⟩ := h
    rfl
  · obtain ⟨w, ps, rls, ts, rss, v, t, n, bs, rfl, wl, wn, d, tw, k⟩ := h
    have big : sizeLine > 100000 := by decide
    refine ⟨_, pss_cons (ps_if (PW.pt (pw_or (pt_not (pt_val (pe_callB call_isi (by rfl) T.isi (by decide +kernel) (pa_cons (pv 1) (pa_cons (pe_bltn (v := .ty "tuple") (by rfl) T.tuple (by decide +kernel) rfl) pa_nil)))))
          (pw_or (pt_cmpR op_lt (pe_callB call_len_seq (by rfl) T.len (by decide +kernel) (pa_cons (pv 1) pa_nil)) pe_int (nomark _))
          (pw_or (pt_not (pt_val (pe_callB call_isi (by rfl) T.isi (by decide +kernel) (pa_cons (pe_ix ix_tup (pv 1) pe_int (fun _ _ => rfl)) (pa_cons (pe_bltn (v := .ty "str") (by rfl) T.str (by decide +kernel) rfl) pa_nil)))))
          (pw_or1 (pt_not (pt_val (pe_callB call_isi (by rfl) T.isi (by decide +kernel) (pa_cons (pe_ix ix_tup (pv 1) pe_int (fun _ _ => rfl)) (pa_cons (pe_bltn (v := .ty "str") (by rfl) T.str (by decide +kernel) rfl) pa_nil))))))))))
        (pss_one (ps_ret pe_bl)) pss_nil)
      (pss_cons (ps_if (PW.pt (pw_or (pt_cmpR op_notIn_seq (pe_ix ix_tup (pv 1) pe_int (fun _ _ => rfl)) (pe_tupF (pa_cons pe_str (pa_cons pe_str (pa_cons pe_str pa_nil)))) (by rfl))
          (pw_or1 (pt_cmpR op_ne (pe_callB call_len_seq (by rfl) T.len (by decide +kernel) (pa_cons (pv 1) pa_nil)) (pe_op op_add pe_int (pe_callTy call_int1 (by rfl) T.int (by decide +kernel) (pa_cons (pe_cmpR op_eq (pe_ix ix_tup (pv 1) pe_int (fun _ _ => rfl)) pe_str (nomark _)) pa_nil))) (nomark _)))))
        (pss_one (ps_ret pe_bl)) pss_nil)
      (pss_cons (ps_for PassesOwn.never rfl (pi_list (pv 0)) (pg_lst rfl (pgs_cons (pg_name (i := 2) scIsChangeL.nd rfl (Or.inr rfl)) (pgs_cons (pg_name (i := 3) scIsChangeL.nd rfl (Or.inl rfl)) pgs_nil)))
        (pss_one (ps_if (pt_cmpR op_eq (pe_ix ix_tup (pv 2) pe_int (fun _ _ => rfl)) (pe_ix ix_tup (pv 1) pe_int (fun _ _ => rfl)) (nomark _))
          (pss_one (ps_ret (pe_cmpR (op_eqNil hr.units0) (pe_lc (own := [("_law_row_here", 4)]) (g := gName 4) (tt := tNot (tB (tCall (spLRow K) [] E0 (tCons (tVar 2) (tCons (tVar 4) tNil))))) (te := tVar 4) rfl scIsChangeL.nd (pi_tup (pe_slice sl_cut (pv 1) (po_some pe_int) po_none))
            (blkOk_by (N := ["_law_world_here", "_law_it", "_law_some", "_law_rows", "_law_row_here"]) (sc := defScope sIsChangeL) (by decide +kernel)) (fun _ _ _ _ _ => pg_name (i := 4) scIsChangeL.nd rfl (Or.inl rfl))
            (fun _ _ _ _ _ => by exact (pts_one (pt_not (pt_val (pe_call GR hr rfl cR.g cR.k bR .nil pass0 (pa_cons (pv 2) (pa_cons (pv 4) pa_nil))))))) (fun _ _ _ _ _ => by exact (pv 4))) (pe_lst pa_nil) (nomark _)))) pss_nil)))
      (pss_one (ps_ret pe_bl)))), ?_⟩
    have no : ∀ H', Same H H' → isChg ts t = false → Q (.bl false) H' := fun H' s' z => by
      rw [← z]
      exact k H' s'
    refine ⟨_, rfl, v, _, _, _, isTup t, rfl, .ty _, d.ty, kit_tup t, _, rfl, ?_⟩
    cases ht : isTup t with
    | false =>
      refine iteT (iteT (no H (Same.refl H) ?_))
      cases t <;> first | rfl | cases ht
    | true =>
      obtain ⟨b, xs, us, m, cs, rfl, rfl, _, hb, r, _⟩ := d.tupOf ht
      have hl := r.length
      have wl0 := ws_len us
      have tw2 : 3 + ws us ≤ 10000 := tw
      refine iteF ?_
      refine ⟨_, rfl, b, xs, rfl, .inr hb, _, _, rfl, rfl, _, rfl, ?_⟩
      refine ite_ (fun e3 => ?_) (fun e3 => ?_)
      · refine iteT (no H (Same.refl H) ?_)
        match us, hl with
        | [], _ => rfl
        | [_], _ => rfl
        | [_, _], _ => rfl
        | a :: b :: c :: l, hl =>
          rw [hl] at e3
          have : (((a :: b :: c :: l).length : Nat) : Int) = (l.length : Int) + 3 := by simp; omega
          omega
      have l3 : 3 ≤ us.length := by omega
      obtain ⟨k0, k1, r0, us', rfl⟩ : ∃ k0 k1 r0 us', us = k0 :: k1 :: r0 :: us' := by
        match us, l3 with
        | a :: b :: c :: l, _ => exact ⟨a, b, c, l, rfl⟩
      obtain ⟨v0, v1, vs', rfl⟩ : ∃ v0 v1 vs', xs = v0 :: v1 :: vs' := by
        match xs, hl with
        | a :: b :: l, _ => exact ⟨a, b, l, rfl⟩
      cases r with
      | cons dk rr =>
        cases rr with
        | cons dn rr =>
          refine ⟨_, rfl, b, _, 0, v0, rfl, rfl, hb, at0, v0, _, _, _, isStr k0, rfl, .ty _, dk.ty, kit_str k0, _, rfl, ?_⟩
          cases hk0 : isStr k0 with
          | false =>
            refine iteT (iteT (no H (Same.refl H) ?_))
            cases k0 <;> first | rfl | cases hk0
          | true =>
            refine iteF ?_
            refine ⟨_, rfl, b, _, 1, v1, rfl, rfl, hb, at1, v1, _, _, _, isStr k1, rfl, .ty _, dn.ty, kit_str k1, _, rfl, ?_⟩
            cases hk1 : isStr k1 with
            | false =>
              refine iteT (no H (Same.refl H) ?_)
              have f0 : firstAt ts k1 = none := by
                unfold firstAt
                rw [List.findIdx?_eq_none_iff]
                intro x _
                cases k1 <;> first | rfl | cases hk1
              show chgK ts k1 (r0 :: us') k0 = false
              cases k0 with
              | str kd =>
                show (decide _ && rowsOk ts k1 (r0 :: us')) = false
                unfold rowsOk
                rw [f0, Bool.and_false]
              | _ => rfl
            | true =>
              refine iteF ?_
              cases dk with
              | @str _ kd hkd1 hkd2 =>
                cases dn with
                | @str _ nm hn1 hn2 =>
                  have it2 : ∀ {H' : Hp}, Same H H' → SqT K H' b (.str kd :: .str nm :: vs') := fun s' => sameT s' hb
                  have chg : isChg ts (.tup (.str kd :: .str nm :: r0 :: us')) = (decide (lenV kd = .int (((us'.length + 1) + 2 : Nat) : Int)) && rowsOk ts (.str nm) (r0 :: us')) := rfl
                  rw [chg, lenV_law] at k no
                  have lv : (V.str kd :: V.str nm :: vs').length = us'.length + 1 + 2 := hl
                  refine ⟨_, rfl, b, _, 0, .str kd, rfl, rfl, hb, at0, by show 3 ≤ sizeLine; omega, fun q o hq ho => ?_⟩
                  have s1 := same_upd (o := .frz o (.tup [V.str (Str.ofString "insert"), V.str (Str.ofString "delete"), V.str (Str.ofString "replace")])) hq
                  refine ⟨q, [V.str insS, .str delS, .str repS], rfl, .inr (.inl (.inr ⟨o, upd_same⟩)), rfl, rfl, _, rfl, ?_⟩
                  show if (!inV (V.str kd) [V.str insS, .str delS, .str repS]) = true then _ else _
                  have e5 : inV (V.str kd) [V.str insS, .str delS, .str repS] = [insS, delS, repS].any fun x => x == kd := rfl
                  rw [e5]
                  generalize upd H q (.frz o (.tup [V.str (Str.ofString "insert"), V.str (Str.ofString "delete"), V.str (Str.ofString "replace")])) = H1 at s1 ⊢
                  cases hin : [insS, delS, repS].any fun x => x == kd with
                  | false =>
                    rw [hin, Bool.false_and, Bool.false_and] at no
                    exact iteT (iteT (no H1 s1 rfl))
                  | true =>
                    rw [hin, Bool.true_and] at k no
                    refine iteF ?_
                    refine ⟨_, rfl, b, _, rfl, .inr (it2 s1), _, rfl, b, _, 0, .str kd, rfl, rfl, it2 s1, at0, rfl, .inr ⟨_, rfl, _, _, rfl, rfl, rfl, _, rfl, ?_⟩⟩
                    have e6 : (!decide (V.int (((V.str kd :: V.str nm :: vs').length : Nat) : Int) = V.int (3 + (if decide (V.str kd = V.str repS) = true then (1 : Int) else 0)))) = !decide (((us'.length + 1 + 2 : Nat) : Int) = 3 + (if decide (kd = repS) = true then (1 : Int) else 0)) := by
                      have e7 : decide (V.str kd = V.str repS) = decide (kd = repS) := decide_eq_decide.mpr ⟨V.str.inj, congrArg V.str⟩
                      rw [lv, e7]
                      congr 1
                      exact decide_eq_decide.mpr ⟨V.int.inj, congrArg V.int⟩
                    show if (!decide (V.int (((V.str kd :: V.str nm :: vs').length : Nat) : Int) = V.int (3 + (if decide (V.str kd = V.str repS) = true then (1 : Int) else 0)))) = true then _ else _
                    rw [e6]
                    cases hlen : decide (((us'.length + 1 + 2 : Nat) : Int) = 3 + (if decide (kd = repS) = true then (1 : Int) else 0)) with
                    | false =>
                      rw [hlen, Bool.false_and] at no
                      exact iteT (no H1 s1 rfl)
                    | true =>
                      rw [hlen, Bool.true_and] at k no
                      refine iteF ?_
                      have wl1 := wl.same s1
                      refine ⟨_, rfl, w, rfl, ⟨_, SqL.of wl1.hw⟩, for_list (K := K) (a := w) (xs := ps.map V.ref) (fun j σ H' => ∃ v2 v3 v4 : Option V, σ = [some (.ref w), some (.ref b), v2, v3, v4] ∧ Same H1 H' ∧ ∀ i, i < j → ∀ ti, ts[i]? = some ti → ti.nm ≠ nm)
                        ⟨none, none, none, rfl, Same.refl H1, fun i hi => absurd hi (Nat.not_lt_zero i)⟩ (fun j σ H' _ ⟨_, _, _, _, z, _⟩ => SqL.of (wl1.same z).hw) ?_ ?_⟩
                      · rintro j y σ H2 hj ⟨v2, v3, v4, rfl, s2, ne⟩
                        have jlt : j < ts.length := by
                          have := (List.getElem?_eq_some_iff.mp hj).1
                          rw [List.length_map, wl.lp] at this
                          exact this
                        obtain ⟨pj, rlj, tj, rsj, g1, g2, g3, g4, smj, vsj, h0, ha, h3, h4⟩ := (wl1.same s2).at jlt
                        rw [List.getElem?_map, g1] at hj
                        obtain rfl := Option.some.inj hj
                        have s12 := s1.trans s2
                        obtain ⟨oj, b1, b2', b3, hsj, hodj, T1, T2, T3⟩ := id ha
                        refine ⟨pj, [.ref smj, .ref rlj], rfl, SqL.of h0, rfl, _, _, rfl, _, _, rfl, rfl, ?_⟩
                        refine ⟨_, rfl, smj, _, 0, .str tj.nm, rfl, rfl, .inl (.inr ⟨oj, hsj⟩), rfl, _, rfl, b, _, 1, .str nm, rfl, rfl, it2 s12, at1, rfl, _, rfl, ?_⟩
                        refine ite2 (fun e => ?_) (fun e => ?_)
                        · have en : tj.nm = nm := V.str.inj (of_decide_eq_true e)
                          have fi : firstAt ts (.str nm) = some j := by
                            rw [← en]
                            exact first_nm wn.nd g3
                          have ro : rowsOk ts (.str nm) (r0 :: us') = (r0 :: us').all (isRow tj.ss.length tj.zs.length) := by
                            unfold rowsOk
                            rw [fi]
                            dsimp only
                            rw [g3]
                          rw [ro] at k
                          refine ⟨_, rfl, 2, rfl, b, _, rfl, it2 s12, fun q2 H3 s3 hq3 => ⟨q2, rfl, ⟨_, hq3⟩, fun D hD => ?_⟩⟩
                          have cd : cutV (V.str kd :: V.str nm :: vs') (some 2) none = vs' := by
                            have := cut_drop (V.str kd :: V.str nm :: vs') 2
                            exact this
                          rw [cd] at hq3
                          have s13 := s12.trans s3
                          have rr3 := rr.same s13
                          have lr : vs'.length = (r0 :: us').length := rr.length
                          refine lc_tup (K := K) (a := q2) (xs := vs') (fun i H' => Same H3 H' ∧ ∃ acc : List V, H' D = some (.lst acc) ∧ acc.isEmpty = (((r0 :: us').take i).all (isRow tj.ss.length tj.zs.length)) ∧ acc.length ≤ i) ⟨same_upd hD, [], upd_same, rfl, Nat.le_refl _⟩ (fun i H' _ z => sameT z.1 hq3) ?_ ?_
                          · rintro i y H4 hi ⟨s4, acc, e4, em, la⟩
                            refine ⟨rfl, ?_⟩
                            obtain ⟨ti, ct, et, dt, _⟩ := (rr3.same s4).get hi
                            have li : i < vs'.length := (List.getElem?_eq_some_iff.mp hi).1
                            have lw : vs'.length ≤ 5000 := by
                              rw [lr]
                              simp only [List.length_cons] at wl0 ⊢
                              omega
                            refine ⟨_, rfl, _, rfl, smj, tj, y, ti, _, ct, rfl, ha.fz (Fz.of_same (s3.trans s4)), dt, fun H5 s5 => ⟨_, rfl, ?_⟩⟩
                            have st : ((r0 :: us').take (i + 1)).all (isRow tj.ss.length tj.zs.length) = (((r0 :: us').take i).all (isRow tj.ss.length tj.zs.length) && isRow tj.ss.length tj.zs.length ti) := by
                              rw [List.take_add_one, et, List.all_append]
                              simp
                            have s45 := s4.trans s5
                            cases eb : isRow tj.ss.length tj.zs.length ti with
                            | true =>
                              refine iteF ⟨s45, acc, s5 _ _ e4, ?_, by omega⟩
                              rw [st, eb, Bool.and_true]
                              exact em
                            | false =>
                              refine iteT ⟨_, rfl, acc, s5 _ _ e4, by omega, fun c u eu => ?_, acc ++ [y], upd_same, ?_, ?_⟩
                              · rw [upd_ne (ne_of_none eu hD)]
                                exact s45 c u eu
                              · rw [st, eb, Bool.and_false]
                                cases acc <;> rfl
                              · rw [List.length_append]
                                show acc.length + 1 ≤ i + 1
                                omega
                          · rintro H4 ⟨s4, acc, e4, em, _⟩
                            rw [lr, List.take_length] at em
                            refine ⟨Nat.zero_le _, fun p hp => ⟨D, p, acc, rfl, rfl, SqL.of (same_upd hp _ _ e4), SqL.of upd_same, ?_⟩⟩
                            rw [em]
                            exact k _ ((s13.trans s4).trans (same_upd hp))
                        · refine ⟨_, _, _, rfl, s2, fun i hi ti et => ?_⟩
                          by_cases q : i = j
                          · subst q
                            rw [g3] at et
                            obtain rfl := Option.some.inj et
                            exact fun en => e (decide_eq_true (by rw [en]))
                          · exact ne i (by omega) ti et
                      · rintro σ H2 ⟨v2, v3, v4, rfl, s2, ne⟩
                        refine no H2 (s1.trans s2) ?_
                        unfold rowsOk
                        rw [first_none fun t m => by
                          obtain ⟨i, hi⟩ := List.mem_iff_getElem?.mp m
                          have := (List.getElem?_eq_some_iff.mp hi).1
                          exact ne i (by rw [List.length_map, wl.lp]; exact this) t hi]
                | _ => cases hk1
              | _ => cases hk0
end
end Vm
namespace Vm
open PySem PySem.Spec PyProof.Rows L2
abbrev sHeard : Stmt := top 62
/-! a method called in a try, by position or by name: what is raised is wished for at the slots -/
def tMSl (C : Addr) (m : Str) (sp : Sp) (E : L2.St → XK) (ta : TE) (t : TA) : TE := fun σ H Q => ta σ H fun x H1 => ∃ a dx fs, x = .ref a ∧ H1 a = some (.ins C dx fs) ∧ fs.lookup m = none ∧ t σ H1 fun vs H2 => sp (x :: vs) H2 Q (E σ)
def tMKl (C : Addr) (m : Str) (sp : Sp) (gV : List V → List V → List V) (E : L2.St → XK) (ta : TE) (tk : TA) : TE := fun σ H Q => ta σ H fun x H1 => ∃ a dx fs, x = .ref a ∧ H1 a = some (.ins C dx fs) ∧ fs.lookup m = none ∧ tk σ H1 fun zs H2 => sp (gV [x] zs) H2 Q (E σ)
section
variable {X : Cx} {CX : CXT} {k : Nat} {f C : Addr} {fd : FuncData} {ps ks : List Str} {sp : Sp} {E : L2.St → XK} {m : Str} {pos apos : Pos} {o e : Expr} {es : List Expr} {kws : List Keyword} {ta : TE} {t tk : TA} {g : List Value → List Value → List Value} {gV : List V → List V → List V}
theorem pe_mS {pl : Sem Bool} (he : PE X o ta) (c : Cls X.K C) (hm : Meth X.K C m f) (F : FnOk X.prog X.w X.K X.mg X.base CX k f fd ps sp) (hr : Room k X.A) (hb : Binds X.K fd ps []) (hx : ∀ σ, PassesAt CX X σ (E σ)) (ha : PA X (e :: es) t)
    (hst : starEach (e :: es) X.env = (false, eval e X.env) :: starEach es X.env := by rfl) (hpl : (backTo pos (starEach es X.env)).any (·.1) = false := by rfl)
    (ht : eval (.Call (.Attribute o m apos) (e :: es) [] pos) X.env = (do
      let ov ← eval o X.env
      standAt apos.atName
      let (f, first) ← holding [ov] (getMethod ov m pl)
      callWith pos f first (backTo pos (starEach (e :: es) X.env)) (backToKw pos (keywordEach [] X.env))) := by rfl) :
    PE X (.Call (.Attribute o m apos) (e :: es) [] pos) (tMSl C m sp E ta t) := by
  refine ⟨fun pins s σ H Q I h => ?_⟩
  refine PySem.W.methodCall_KW (pl := pl) (thn (he.run pins s σ H _ I h) fun u s1 ⟨x, H1, I1, rx, a, dx, fs, ex, ea, l, q⟩ => ?_) ht
  subst ex
  obtain rfl : u = Value.ref a := rx
  refine getmeth_ok I1 ea c hm l ?_
  refine PySem.W.callWith_K (first := [.ref a]) (h₀ := X.base) I.ok.mod.kin hm.kp (thn (ha.run pos pins s1 σ H1 _ I1 q) fun us s2 ⟨vs, H2, I2, r, q2⟩ => ⟨I2.kIn, ?_⟩) hst hpl
  exact run_fnS (us := .ref a :: us) (vs := .ref a :: vs) F hr hb (hx σ) I2 (.cons rfl r) q2
theorem run_fnkS {pins : List (Addr × Obj)} {σ : L2.St} {H : Hp} {s : Shared} {Q : VK} {us ws : List Value} {vs zs : List V} (F : FnOk X.prog X.w X.K X.mg X.base CX k f fd ps sp) (hr : Room k X.A) (hb : KBinds X.K fd ps ks g gV) (hx : PassesAt CX X σ (E σ))
    (I : Inv X pins σ H s) (r : Vals vs us) (rz : Vals zs ws) (h : sp (gV vs zs) H Q (E σ)) : wpAny (model X.prog X.w) X.A (call (.ref f) us (ks.zip ws)) (EP X pins σ Q) X.xe s := by
  have r2 := hb.rel r rz
  have hl : (g us ws).length = ps.length := by rw [← r2.length]; exact F.len _ _ _ _ h
  refine wpAny_call (codeAny_mono (F.run X.A X.stack s H ⟨us, ks.zip ws⟩ (g us ws) (gV vs zs) Q (E σ) hr I.env0 (hb.to s us ws I.kIn hl) r2 h) fun r s' hq => ?_)
  cases r with
  | error e => exact hx pins H s e s' I hq
  | ok fl =>
    cases fl with
    | ret u => exact I.after hq
    | next => exact False.elim hq
    | brk => exact False.elim hq
    | cont => exact False.elim hq
theorem pe_mKS {pl : Sem Bool} (he : PE X o ta) (c : Cls X.K C) (hm : Meth X.K C m f) (F : FnOk X.prog X.w X.K X.mg X.base CX k f fd ps sp) (hr : Room k X.A) (hb : KBinds X.K fd ps ks g gV) (hx : ∀ σ, PassesAt CX X σ (E σ)) (hkw : PK X kws tk)
    (hall : (backToKw pos (keywordEach kws X.env)).all (·.1.isSome) = true := by rfl) (hks : (backToKw pos (keywordEach kws X.env)).filterMap (·.1) = ks := by rfl)
    (hpl : ((backTo pos (starEach [] X.env)).any (·.1) || (backToKw pos (keywordEach kws X.env)).any (·.1.isNone)) = false := by rfl)
    (ht : eval (.Call (.Attribute o m apos) [] kws pos) X.env = (do
      let ov ← eval o X.env
      standAt apos.atName
      let (f, first) ← holding [ov] (getMethod ov m pl)
      callWith pos f first (backTo pos (starEach [] X.env)) (backToKw pos (keywordEach kws X.env))) := by rfl) :
    PE X (.Call (.Attribute o m apos) [] kws pos) (tMKl C m sp gV E ta tk) := by
  refine ⟨fun pins s σ H Q I h => ?_⟩
  refine PySem.W.methodCall_KW (pl := pl) (thn (he.run pins s σ H _ I h) fun u s1 ⟨x, H1, I1, rx, a, dx, fs, ex, ea, l, q⟩ => ?_) ht
  subst ex
  obtain rfl : u = Value.ref a := rx
  refine getmeth_ok I1 ea c hm l ?_
  refine PySem.W.callWith_KW0 (first := [.ref a]) (h₀ := X.base) I.ok.mod.kin hm.kp hall (thn (hkw.run pos pins s1 σ H1 _ I1 q) fun ws s2 ⟨zs, H2, I2, rz, q2⟩ => ⟨I2.kIn, ?_⟩) hpl
  rw [hks]
  exact run_fnkS (us := [.ref a]) (vs := [.ref a]) F hr hb (hx σ) I2 (.cons rfl .nil) rz q2
end
/-- a call that raises nothing, in any body -/
theorem passN {X : Cx} (σ : L2.St) : PassesAt CX0 X σ ((fun _ => E0) σ) := fun pins H s e s' I c => pass0 pins σ H s e s' I c
/-! isinstance of a caught exception with a dict -/
def rIsEd (K : PySem.W.Frag) (D a : Addr) (cls : Value) (d : Option Addr) : List V → Hp → VK → Prop := fun xs H Q => cls = .ref D ∧ ∃ (dd : Addr) (fs : List (Str × V)) (c : V) (cv : Value) (b : Bool), d = some dd ∧ H dd = some (.xd fs) ∧ xs = [.ref a, c] ∧ (∀ u, RelV c u → u = cv) ∧ PySem.W.kitOne K (.ref D) cv = some b ∧ Q (.bl b) H
theorem call_isEd {X : Cx} {a D : Addr} {oe : Obj} {cls : Value} {d : Option Addr} {pn : List (Addr × Obj)} (C : ExcC X.K D) (hz : Zc cls d oe) (hf : ∃ vs, oe.data = .fields vs) : CallR (X.suite a ((a, oe) :: pn)) (.builtin "isinstance") (rIsEd X.K D a cls d) := by
  intro pins s σ H xs us Q I r h
  obtain ⟨ec, dd, fs, c, cv, b, ed, ea, rfl, hcv, e, q⟩ := h
  subst ec
  subst ed
  cases r with
  | cons rx rr =>
    cases rr with
    | cons rt rr =>
      cases rr
      cases rx
      have ec := hcv _ rt
      subst ec
      obtain ⟨hget, _⟩ := I.pin (a, oe) (List.mem_append.mpr (.inl List.mem_cons_self))
      obtain ⟨vs, hv⟩ := hf
      have hx : ObjOk X.prog X.w H s.heap dd (.xd fs) := I.hok dd _ ea
      obtain ⟨mA, hns, hr⟩ := hx
      obtain ⟨od, ho, hl⟩ := lookIn_ns hns
      have J : PySem.W.InstAt s.heap a oe D (some od) := ⟨hget, hz.1, by unfold PySem.W.notCls; rw [hv] <;> rfl, by rw [hz.2]; exact ho⟩
      have hcl : (PySem.W.clsIn X.K D).isSome = true := by
        obtain ⟨cd, hc, _⟩ := PySem.W.any_some C.hd
        rw [hc]
        rfl
      exact PySem.W.kia_one (PySem.W.kitx_exc hcl C.hg C.hk C.hs C.ha C.hn C.ht C.hm) I.kIn J e (fun z => nomatch z) fun tk => ⟨.bl b, H, I.kept (t' := tk) fun _ _ z => z, rfl, q⟩
/-! _law_heard -/
abbrev kwP (vs zs : List V) : List V := match vs, zs with
  | [e], [v] => [e, v]
  | _, _ => []
def heardT (ts : List Ti) (rss : List (List Row)) (t : Tr) : Tr := if isChg ts t = true then .tup [.str "told", .bl (posT ts rss t)] else .tup [.str "invalid", t]
def spHeard (K : PySem.W.Frag) (C CT : Addr) : Sp := fun vs H Q _ => ∃ (N : Nat) (st dx tp rd : Addr) (ws : List V) (ts : List Ti) (qs : List Addr) (rss : List (List Row)) (v : V) (t : Tr) (n : Nat) (bs : List Addr) (fl : Bool), vs = [.ref st, v, .bl fl] ∧ StAt K H C CT st dx tp rd ws ts qs rss ∧ Dt K H v t n bs ∧ n ≤ 6 ∧ t.w ≤ 10000 ∧ Fit N ts rss ∧ N ≤ 90 ∧
  ∀ H', Same H H' → Q (.str (heardT ts rss t).text) H'
/-- what the written part says of the errors -/
structure TxtH (K : PySem.W.Frag) (mg : Str → Option Value) (CI tT : Addr) : Prop where
  gT : mg "TurnError" = some (.ref tT)
  gVE : mg "ValueError" = none
  gI : mg "InvalidChange" = some (.ref CI)
  xc : ExcC K CI
  no : PySem.W.findIn K (.ref CI) "change" = some none
  em : PySem.W.exmOne K (.ref CI) (.ref CI) = some true
  k1 : PySem.W.kitOne K (.ref CI) (.ref tT) = some true
  k2 : PySem.W.kitOne K (.ref CI) (.type "ValueError") = some true
theorem _root_.L2.ExcC.xf {K : PySem.W.Frag} {C : Addr} (T : ExcC K C) : XfC K C := ⟨T.hg, T.hk, T.hs, T.hd⟩
section
variable {P : Program} {w : World} {K : PySem.W.Frag} {mg : Str → Option Value} {base : Heap} {fNm fNms C CT CIC tT fTO fRO fIC fIP : Addr} {g : List Value → List Value → List Value}
theorem scHeard : FnScope ["_law_store_here", "_law_it", "_law_by_name", "_law_found", "e"] ["_law_store_here", "_law_it", "_law_by_name"] (defScope sHeard) := ⟨rfl, rfl, rfl, by decide +kernel, rfl, by decide +kernel, by decide +kernel⟩
theorem ok_heard {f : Addr} {fd fdP : FuncData} (F : Fun K "_law_heard" "_law_heard" sHeard f fd) (T : TxtP K mg fNm fNms) (rp : mg "repr" = none) (S : TxtS K mg C fTO fRO fIC fIP) (W : TxtH K mg CIC tT)
    (GP : FnOk P w K mg base (L2.CX P w) 6 fIP fdP ["self", "change"] (spIsPossible K C CT CIC)) (bP : Binds K fdP ["self", "change"] []) (kP : KBinds K fdP ["self", "change"] ["change"] g kwP) :
    FnG P w K mg base CX0 7 f fd ["_law_store_here", "_law_it", "_law_by_name"] (spHeard K C CT) := by
  refine okG0 F scHeard (fun vs H Q E h => ?_) (fun cdv A outer s H vs Q E ag hr h => ?_)
  · obtain ⟨N, st, dx, tp, rd, ws, ts, qs, rss, v, t, n, bs, fl, rfl, _⟩ := h
    rfl
  · obtain ⟨N, st, dx, tp, rd, ws, ts, qs, rss, v, t, n, bs, fl, rfl, sa, d, hn, tw, fit, hN, k⟩ := h
    have hu : (A.deeper (PyProof.Rows.envOfC "_law_heard" (defScope sHeard) s.heap.objs.size f cdv)).units + 16 < cLine := by
      have := hr.units
      omega
    have big : sizeLine > 100000 := by decide
    let tb : WX → TS := fun Wx => tAsg (tTupF (tCons (tC (.str "told")) (tCons (tIf (tB (tVar 2)) (tMKl C "is_possible" (spIsPossible K C CT CIC) kwP (WE Wx) (tVar 0) (tCons (tVar 1) tNil)) (tMSl C "is_possible" (spIsPossible K C CT CIC) (WE Wx) (tVar 0) (tCons (tVar 1) tNil))) tNil))) (gName 3)
    let isi : Addr → Value → Option Addr → V → TT := fun a cls d c => tB (tCB (rIsEd K CIC a cls d) (tCons (tVar 4) (tCons (tC c) tNil)))
    let th : Addr → Value → Option Addr → TS := fun a cls d => tAsg (tIf (tAnd (isi a cls d (.ref tT)) (isi a cls d (.ty "ValueError"))) (tTupF (tCons (tC (.str "invalid")) (tCons (tXf a cls d CIC "change" (tVar 4)) tNil))) (tTupF (tCons (tC (.str "odd")) tNil))) (gName 3)
    refine ⟨_, pss_cons (ps_set (i := 3) scHeard.nd rfl (Or.inl rfl) (pe_tupF (pa_cons pe_str pa_nil)))
      (pss_cons (ps_try_as (i := 4) (tb := tb) (ts := th) (Wout := fun _ _ _ _ => False) rfl rfl scHeard.nd rfl rfl ⟨rfl, by decide, Or.inl W.gI⟩ takes0
        (fun Wx pn xe tk _ => pss_one (ps_set (i := 3) scHeard.nd rfl (Or.inl rfl) (by exact (pe_tupF (pa_cons pe_str (pa_cons (pe_ifExp (pt_val (pv 2))
          (pe_mKS (pv 0) S.cl S.mIP GP hr kP (fun σ => passAt tk σ) (pk_cons (pv 1) pk_nil)) (pe_mS (pv 0) S.cl S.mIP GP hr bP (fun σ => passAt tk σ) (pa_cons (pv 1) pa_nil))) pa_nil))))))
        (fun a oe cls d pn hz hf => pss_one (ps_set (i := 3) scHeard.nd rfl (Or.inl rfl) (by exact (pe_ifExp (PW.pt (pw_and
            (pt_val (pe_callB (call_isEd W.xc hz hf) (by rfl) T.isi (by decide +kernel) (pa_cons (pv 4) (pa_cons (pe_glob (v := .ref tT) (by rfl) W.gT rfl) pa_nil))))
            (pw_and1 (pt_val (pe_callB (call_isEd W.xc hz hf) (by rfl) T.isi (by decide +kernel) (pa_cons (pv 4) (pa_cons (pe_bltn (v := .ty "ValueError") (by rfl) W.gVE (by decide +kernel) rfl) pa_nil)))))))
            (pe_tupF (pa_cons pe_str (pa_cons (pe_xf W.xc.xf W.no hz hf (pv 4)) pa_nil))) (pe_tupF (pa_cons pe_str pa_nil)))))))
      (pss_one (ps_ret (pe_callB (call_reprT ag hu) (by rfl) rp (by decide +kernel) (pa_cons (pv 3) pa_nil))))), ?_⟩
    refine ⟨by show 1 ≤ sizeLine; omega, fun p0 o0 hp0 ho0 => ?_⟩
    have s0 := same_upd (o := .frz o0 (.tup [V.str (Str.ofString "odd")])) hp0
    generalize upd H p0 (.frz o0 (.tup [V.str (Str.ofString "odd")])) = H0 at s0 ⊢
    have sa0 := sa.same s0
    have d0 := d.same s0
    have tl : ∀ (x : Str) (u : Tr), (reprText x).length ≤ 100 → u.w ≤ 10000 → (Tr.tup [.str x, u]).text.length ≤ sizeLine := fun x u h1 h2 => by
      have a := Tr.text_le (.tup [.str x, u])
      have b : (Tr.tup [.str x, u]).w = 3 + (((reprText x).length + 2) + ((u.w + 2) + 0)) := rfl
      omega
    have main : ∀ (Qx : VK) (Ex : XK), (isChg ts t = true → ∀ H', Same H0 H' → Qx (.bl (posT ts rss t)) H') → (isChg ts t = false → ∀ d H', Same H0 H' → H0 d = none → H' d = some (.xd [("change", v)]) → Ex (.ref CIC) (some d) H') → spIsPossible K C CT CIC [.ref st, v] H0 Qx Ex :=
      fun Qx Ex q1 q2 => ⟨N, st, dx, tp, rd, ws, ts, qs, rss, v, t, n, bs, rfl, sa0, d0, tw, fit, hN, q1, q2⟩
    have done : ∀ (x : Str) (vv : V) (u : Tr) (m : Nat) (cs : List Addr), (reprText x).length ≤ 100 → x.length ≤ 100 → u.w ≤ 10000 → heardT ts rss t = .tup [.str x, u] → ∀ H1, Same H0 H1 → Dt K H1 vv u m cs → m ≤ 6 → ∀ (p : Addr) (o : Obj), H1 p = none → o.dict = none → ∀ (Hq : Hp), Hq = upd H1 p (.frz o (.tup [V.str x, vv])) →
        ∃ (v' : V) (t' : Tr) (n' : Nat) (bs' : List Addr), ([V.ref p] : List V) = [v'] ∧ Dt K Hq v' t' n' bs' ∧ n' ≤ 8 ∧ t'.text.length ≤ sizeLine ∧ Q (.str t'.text) Hq := fun x vv u m cs h1 h2 h3 e H1 s1 dv hm p o hp ho Hq eq => by
      subst eq
      have dd : DPs K H1 (fun _ => True) [V.str x, vv] [.str x, u] m := .cons (.str (Nat.le_trans h1 (by decide)) (Nat.le_trans h2 (by decide))) (.cons ⟨cs, dv, fun _ _ => trivial⟩ .nil)
      obtain ⟨bs', d', _⟩ := dd.tup hp trivial ho
      refine ⟨_, _, m + 1, bs', rfl, d', by omega, tl x u h1 h3, ?_⟩
      rw [← e]
      exact k _ ((s0.trans s1).trans (same_upd hp))
    have bad : isChg ts t = false → ∀ d H', Same H0 H' → H0 d = none → H' d = some (.xd [("change", v)]) → ∀ σ' : L2.St, (∃ x3, σ' = [some (.ref st), some v, some (.bl fl), x3, none]) →
        wAs K (.ref CIC) 4 th (fun _ _ _ _ => False) { nx := tRet (tCB (rRepr K) (tCons (tVar 3) tNil)) { nx := fun _ H' => Q .non H', rt := Q }, rt := Q } (.ref CIC) (some d) σ' H' := fun z d' H' s' nd ed σ' ⟨x3, e⟩ => by
      subst e
      refine ⟨true, W.em, fun _ a ha => ?_, fun q => nomatch q⟩
      refine ⟨_, rfl, rfl, d', _, .ref tT, .ref tT, true, rfl, ed, rfl, fun u r => r, W.k1, _, rfl, ?_⟩
      refine iteT ⟨_, rfl, rfl, d', _, .ty "ValueError", .type "ValueError", true, rfl, ed, rfl, fun u r => r, W.k2, _, rfl, ?_⟩
      refine iteT ?_
      refine ⟨_, rfl, rfl, rfl, d', _, v, rfl, ed, rfl, by show 2 ≤ sizeLine; omega, fun p o hp ho => ?_⟩
      exact ⟨_, rfl, done "invalid" v t n bs (by decide +kernel) (by decide +kernel) tw (by unfold heardT; rw [z]; rfl) H' s' (d0.same s') hn p o hp ho _ rfl⟩
    have good : ∀ {fl' : Bool} {x3 : Option V}, isChg ts t = true → ∀ H', Same H0 H' → ([V.str (Str.ofString "told"), V.bl (posT ts rss t)] : List V).length ≤ sizeLine ∧ New H' [V.str (Str.ofString "told"), V.bl (posT ts rss t)] fun y H1 =>
        gName 3 y [some (.ref st), some v, some (.bl fl'), x3, none] H1 fun σ H => tRet (tCB (rRepr K) (tCons (tVar 3) tNil)) { nx := fun _ H' => Q .non H', rt := Q } σ H := fun {fl' x3} z H' s' => by
      refine ⟨by show 2 ≤ sizeLine; omega, fun p o hp ho => ?_⟩
      exact ⟨_, rfl, done "told" (.bl (posT ts rss t)) (.bl (posT ts rss t)) 0 [] (by decide +kernel) (by decide +kernel) (by show 5 ≤ 10000; decide) (by unfold heardT; rw [z]; rfl) H' s' (.bl _) (by decide) p o hp ho _ rfl⟩
    refine ⟨_, rfl, fl, rfl, ?_⟩
    cases fl with
    | true =>
      refine iteT ?_
      refine ⟨_, rfl, st, dx, _, rfl, sa0.hs, rfl, _, rfl, ?_⟩
      dsimp only [tNil, kwP]
      refine main _ _ (fun z H' s' => ?_) (fun z d H' s' nd ed => bad z d H' s' nd ed _ ⟨_, rfl⟩)
      exact good z H' s'
    | false =>
      refine iteF ?_
      refine ⟨_, rfl, st, dx, _, rfl, sa0.hs, rfl, _, rfl, ?_⟩
      dsimp only [tNil, kwP]
      refine main _ _ (fun z H' s' => ?_) (fun z d H' s' nd ed => bad z d H' s' nd ed _ ⟨_, rfl⟩)
      exact good z H' s'
end
end Vm
namespace Vm
open PySem L2
abbrev sNamedL : Stmt := top 63
def namedT (ts : List Ti) (rss : List (List Row)) (t : Tr) (way : Int) : Tr := match firstAt ts t with
  | none => .tup [.str "unknown", t]
  | some i => match ts[i]?, rss[i]? with
    | some ti, some rs => if way < 2 then .tup [.str "table", .tup (ti.cols.map Tr.str)] else .tup [.str "rows", .tup (rs.map rowT)]
    | _, _ => .non
theorem rows_bs {K : PySem.W.Frag} {H : Hp} : ∀ {xs : List V} {us : List Row}, RowsAt H xs us → (∀ r ∈ us, ∀ c ∈ r, smallC c = true) → ∃ bs, DtAll K H xs (us.map rowT) 1 bs ∧ ∀ c ∈ bs, ∃ o' r', H c = some (.frz o' (.tup ((r' : Row).map Cell.v)))
  | _, _, .nil, _ => ⟨[], .nil, fun _ m => nomatch m⟩
  | _, _, .cons h t, sm => by
    obtain ⟨bs, x1, x2⟩ := rows_bs (K := K) t fun r m => sm r (List.mem_cons_of_mem _ m)
    obtain ⟨q, o', rfl, e', d'⟩ := h
    refine ⟨[q] ++ bs, .cons (.tup e' d' (cells_dt (sm _ List.mem_cons_self)) List.not_mem_nil) x1, fun c m => ?_⟩
    rcases List.mem_append.mp m with m | m
    · rw [List.mem_singleton.mp m]
      exact ⟨o', _, e'⟩
    · exact x2 c m
theorem RTup.dp {K : PySem.W.Frag} {H : Hp} {q : Addr} {rs : List Row} (h : RTup H q rs) (sm : ∀ r ∈ rs, ∀ c ∈ r, smallC c = true) : DP K H (fun _ => True) (.ref q) (.tup (rs.map rowT)) 2 := by
  obtain ⟨o, vs, e, d, r⟩ := h
  obtain ⟨bs, x1, x2⟩ := rows_bs (K := K) r sm
  refine ⟨q :: bs, .tup e d x1 fun m => ?_, fun _ _ => trivial⟩
  obtain ⟨o', r', e'⟩ := x2 q m
  rw [e] at e'
  have e2 := (HO.frz.inj (Option.some.inj e')).2
  have e3 : vs = r'.map Cell.v := by
    injection e2
  cases r with
  | nil =>
    cases x1
    exact nomatch m
  | cons hr tr =>
    obtain ⟨p, _, rfl, _⟩ := hr
    cases r' with
    | nil => exact nomatch e3
    | cons c r' =>
      have := (List.cons.inj e3).1
      cases c <;> exact nomatch this
theorem rows_w {t : Ti} (g : t.ok) : ∀ {rs : List Row}, (∀ r ∈ rs, Rk t r) → ws (rs.map rowT) ≤ 422 * rs.length
  | [], _ => Nat.zero_le _
  | r :: rs, rk => by
    have h1 := (rk r List.mem_cons_self).w g
    have h2 := rows_w g (rs := rs) fun r m => rk r (List.mem_cons_of_mem _ m)
    show ((rowT r).w + 2) + ws (rs.map rowT) ≤ 422 * (rs.length + 1)
    omega
def spNamedL (K : PySem.W.Frag) (C CT : Addr) : Sp := fun vs H Q _ => ∃ (N : Nat) (st dx tp rd : Addr) (ws : List V) (ts : List Ti) (qs : List Addr) (rss : List (List Row)) (v : V) (t : Tr) (n : Nat) (bs : List Addr) (way : Int), vs = [.ref st, v, .int way] ∧ 0 ≤ way ∧ StAt K H C CT st dx tp rd ws ts qs rss ∧ Dt K H v t n bs ∧ n ≤ 6 ∧ t.w ≤ 10000 ∧ (∀ ti ∈ ts, ti.ok) ∧ RkFit N ts rss ∧ N ≤ 90 ∧
  ∀ H', Same H H' → Q (.str (namedT ts rss t way).text) H'
/-- what the written part says of the errors -/
structure TxtN (K : PySem.W.Frag) (mg : Str → Option Value) (CU uT tT : Addr) : Prop where
  gU : mg "Unknown" = some (.ref uT)
  gT : mg "TurnError" = some (.ref tT)
  gKE : mg "KeyError" = none
  gI : mg "UnknownTable" = some (.ref CU)
  xc : ExcC K CU
  no : PySem.W.findIn K (.ref CU) "name" = some none
  em : PySem.W.exmOne K (.ref CU) (.ref CU) = some true
  k1 : PySem.W.kitOne K (.ref CU) (.ref uT) = some true
  k2 : PySem.W.kitOne K (.ref CU) (.type "KeyError") = some true
  k3 : PySem.W.kitOne K (.ref CU) (.ref tT) = some false
section
variable {P : Program} {w : World} {K : PySem.W.Frag} {mg : Str → Option Value} {base : Heap} {fNm fNms fCols fKey CI C CT CU uT tT fTO fRO fIC fIP pC gC : Addr} {g g2 : List Value → List Value → List Value}
theorem scNamedL : FnScope ["_law_store_here", "_law_it", "_law_way", "_law_found", "e", "_law_is_own"] ["_law_store_here", "_law_it", "_law_way"] (defScope sNamedL) := ⟨rfl, rfl, rfl, by decide +kernel, rfl, by decide +kernel, by decide +kernel⟩
theorem ok_namedl {f : Addr} {fd fdT fdR fdG : FuncData} (F : Fun K "_law_named" "_law_named" sNamedL f fd) (T : TxtP K mg fNm fNms) (rp : mg "repr" = none) (S : TxtS K mg C fTO fRO fIC fIP) (U : TxtT K mg CT CI fCols fKey) (W : TxtN K mg CU uT tT)
    (GT : FnOk P w K mg base (L2.CX P w) 3 fTO fdT ["self", "name"] (spTableOf K C CT CU)) (bT : Binds K fdT ["self", "name"] []) (kT : KBinds K fdT ["self", "name"] ["name"] g kwP)
    (GR : FnOk P w K mg base (L2.CX P w) 4 fRO fdR ["self", "name"] (spRowsOf K C CT CU)) (bR : Binds K fdR ["self", "name"] []) (kR : KBinds K fdR ["self", "name"] ["name"] g2 kwP)
    (pp : PropOf K CT "columns" pC gC) (GG : FnOk P w K mg base CX0 1 gC fdG ["self"] (spColumns K CT)) (bG : Binds K fdG ["self"] []) :
    FnG P w K mg base CX0 5 f fd ["_law_store_here", "_law_it", "_law_way"] (spNamedL K C CT) := by
  refine okG0 F scNamedL (fun vs H Q E h => ?_) (fun cdv A outer s H vs Q E ag hr h => ?_)
  · obtain ⟨N, st, dx, tp, rd, ws, ts, qs, rss, v, t, n, bs, way, rfl, _⟩ := h
    rfl
  · obtain ⟨N, st, dx, tp, rd, wv, ts, qs, rss, v, t, n, bs, way, rfl, way0, sa, d, hn, tw, okt, fit, hN, k⟩ := h
    have hu : (A.deeper (PyProof.Rows.envOfC "_law_named" (defScope sNamedL) s.heap.objs.size f cdv)).units + 16 < cLine := by
      have := hr.units
      omega
    have big : sizeLine > 100000 := by decide
    have hr2 : Room 2 _ := hr.mono (by decide)
    have hr3 : Room 3 _ := hr.mono (by decide)
    let cmp : Int → TT := fun i => tTest (tOp rEq (tVar 2) (tC (.int i)))
    let col : TE → TS := fun te => tAsg (tTupF (tCons (tC (.str "table")) (tCons (tProp CT (spColumns K CT) [] E0 te) tNil))) (gName 3)
    let row : TE → TS := fun te => tAsg (tTupF (tCons (tC (.str "rows")) (tCons te tNil))) (gName 3)
    let tb : WX → TS := fun Wx => tIfS (cmp 0) (col (tMSl C "table_of" (spTableOf K C CT CU) (WE Wx) (tVar 0) (tCons (tVar 1) tNil)))
      (tIfS (cmp 1) (col (tMKl C "table_of" (spTableOf K C CT CU) kwP (WE Wx) (tVar 0) (tCons (tVar 1) tNil)))
      (tIfS (cmp 2) (row (tMSl C "rows_of" (spRowsOf K C CT CU) (WE Wx) (tVar 0) (tCons (tVar 1) tNil))) (row (tMKl C "rows_of" (spRowsOf K C CT CU) kwP (WE Wx) (tVar 0) (tCons (tVar 1) tNil)))))
    let isi : Addr → Value → Option Addr → V → TE := fun a cls d c => tCB (rIsEd K CU a cls d) (tCons (tVar 4) (tCons (tC c) tNil))
    let th : Addr → Value → Option Addr → TS := fun a cls d => tSeq (tAsg (tAndV (isi a cls d (.ref uT)) (tAndV (isi a cls d (.ty "KeyError")) (tNotV (isi a cls d (.ref tT))))) (gName 5))
      (tAsg (tIf (tB (tVar 5)) (tTupF (tCons (tC (.str "unknown")) (tCons (tXf a cls d CU "name" (tVar 4)) tNil))) (tTupF (tCons (tC (.str "odd")) tNil))) (gName 3))
    refine ⟨_, pss_cons (ps_set (i := 3) scNamedL.nd rfl (Or.inl rfl) (pe_tupF (pa_cons pe_str pa_nil)))
      (pss_cons (ps_try_as (i := 4) (tb := tb) (ts := th) (Wout := fun _ _ _ _ => False) rfl rfl scNamedL.nd rfl rfl ⟨rfl, by decide, Or.inl W.gI⟩ takes0
        (fun Wx pn xe tk _ => pss_one (by exact (ps_if (pt_cmpR op_eq (pv 2) pe_int (nomark _))
          (pss_one (ps_set (i := 3) scNamedL.nd rfl (Or.inl rfl) (by exact (pe_tupF (pa_cons pe_str (pa_cons (pe_prop (pe_mS (pv 0) S.cl S.mTO GT hr3 bT (fun σ => passAt tk σ) (pa_cons (pv 1) pa_nil)) U.cl pp GG hr2 bG .nil pass0 rfl) pa_nil))))))
          (pss_one (by exact (ps_if (pt_cmpR op_eq (pv 2) pe_int (nomark _))
            (pss_one (ps_set (i := 3) scNamedL.nd rfl (Or.inl rfl) (by exact (pe_tupF (pa_cons pe_str (pa_cons (pe_prop (pe_mKS (pv 0) S.cl S.mTO GT hr3 kT (fun σ => passAt tk σ) (pk_cons (pv 1) pk_nil)) U.cl pp GG hr2 bG .nil pass0 rfl) pa_nil))))))
            (pss_one (by exact (ps_if (pt_cmpR op_eq (pv 2) pe_int (nomark _))
              (pss_one (ps_set (i := 3) scNamedL.nd rfl (Or.inl rfl) (by exact (pe_tupF (pa_cons pe_str (pa_cons (pe_mS (pv 0) S.cl S.mRO GR hr bR (fun σ => passAt tk σ) (pa_cons (pv 1) pa_nil)) pa_nil))))))
              (pss_one (ps_set (i := 3) scNamedL.nd rfl (Or.inl rfl) (by exact (pe_tupF (pa_cons pe_str (pa_cons (pe_mKS (pv 0) S.cl S.mRO GR hr kR (fun σ => passAt tk σ) (pk_cons (pv 1) pk_nil)) pa_nil)))))))))))))))
        (fun a oe cls d pn hz hf => pss_cons (ps_set (i := 5) scNamedL.nd rfl (Or.inl rfl) (by exact (pe_and
            (pe_callB (call_isEd W.xc hz hf) (by rfl) T.isi (by decide +kernel) (pa_cons (pv 4) (pa_cons (pe_glob (v := .ref uT) (by rfl) W.gU rfl) pa_nil)))
            (pe_and (pe_callB (call_isEd W.xc hz hf) (by rfl) T.isi (by decide +kernel) (pa_cons (pv 4) (pa_cons (pe_bltn (v := .ty "KeyError") (by rfl) W.gKE (by decide +kernel) rfl) pa_nil)))
            (pe_one (pe_not (pe_callB (call_isEd W.xc hz hf) (by rfl) T.isi (by decide +kernel) (pa_cons (pv 4) (pa_cons (pe_glob (v := .ref tT) (by rfl) W.gT rfl) pa_nil)))))))))
          (pss_one (ps_set (i := 3) scNamedL.nd rfl (Or.inl rfl) (by exact (pe_ifExp (pt_val (pv 5))
            (pe_tupF (pa_cons pe_str (pa_cons (pe_xf W.xc.xf W.no hz hf (pv 4)) pa_nil))) (pe_tupF (pa_cons pe_str pa_nil))))))))
      (pss_one (ps_ret (pe_callB (call_reprT ag hu) (by rfl) rp (by decide +kernel) (pa_cons (pv 3) pa_nil))))), ?_⟩
    refine ⟨by show 1 ≤ sizeLine; omega, fun p0 o0 hp0 ho0 => ?_⟩
    have s0 := same_upd (o := .frz o0 (.tup [V.str (Str.ofString "odd")])) hp0
    generalize upd H p0 (.frz o0 (.tup [V.str (Str.ofString "odd")])) = H0 at s0 ⊢
    have sa0 := sa.same s0
    have d0 := d.same s0
    have tl : ∀ (x : Str) (u : Tr), (reprText x).length ≤ 100 → u.w ≤ 50000 → (Tr.tup [.str x, u]).text.length ≤ sizeLine := fun x u h1 h2 => by
      have a := Tr.text_le (.tup [.str x, u])
      have b : (Tr.tup [.str x, u]).w = 3 + (((reprText x).length + 2) + ((u.w + 2) + 0)) := rfl
      omega
    have mainT : ∀ (Qx : VK) (Ex : XK), (∀ i w H', firstAt ts t = some i → wv[i]? = some w → Same H0 H' → Qx w H') → (firstAt ts t = none → ∀ d H', Same H0 H' → H0 d = none → H' d = some (.xd [("name", v)]) → Ex (.ref CU) (some d) H') → spTableOf K C CT CU [.ref st, v] H0 Qx Ex :=
      fun Qx Ex q1 q2 => ⟨st, dx, tp, rd, wv, ts, qs, rss, v, t, n, bs, rfl, sa0, d0, q1, q2⟩
    have mainR : ∀ (Qx : VK) (Ex : XK), (∀ i q H', firstAt ts t = some i → qs[i]? = some q → Same H0 H' → Qx (.ref q) H') → (firstAt ts t = none → ∀ d H', Same H0 H' → H0 d = none → H' d = some (.xd [("name", v)]) → Ex (.ref CU) (some d) H') → spRowsOf K C CT CU [.ref st, v] H0 Qx Ex :=
      fun Qx Ex q1 q2 => ⟨st, dx, tp, rd, wv, ts, qs, rss, v, t, n, bs, rfl, sa0, d0, q1, q2⟩
    have done : ∀ (x : Str) (vv : V) (u : Tr) (m : Nat), (reprText x).length ≤ 100 → x.length ≤ 100 → u.w ≤ 50000 → namedT ts rss t way = .tup [.str x, u] → ∀ H1, Same H0 H1 → DP K H1 (fun _ => True) vv u m → m ≤ 6 → ∀ (p : Addr) (o : Obj), H1 p = none → o.dict = none → ∀ (Hq : Hp), Hq = upd H1 p (.frz o (.tup [V.str x, vv])) →
        ∃ (v' : V) (t' : Tr) (n' : Nat) (bs' : List Addr), ([V.ref p] : List V) = [v'] ∧ Dt K Hq v' t' n' bs' ∧ n' ≤ 8 ∧ t'.text.length ≤ sizeLine ∧ Q (.str t'.text) Hq := fun x vv u m h1 h2 h3 e H1 s1 dv hm p o hp ho Hq eq => by
      subst eq
      have dd : DPs K H1 (fun _ => True) [V.str x, vv] [.str x, u] m := .cons (.str (Nat.le_trans h1 (by decide)) (Nat.le_trans h2 (by decide))) (.cons dv .nil)
      obtain ⟨bs', d', _⟩ := dd.tup hp trivial ho
      refine ⟨_, _, m + 1, bs', rfl, d', by omega, tl x u h1 h3, ?_⟩
      rw [← e]
      exact k _ ((s0.trans s1).trans (same_upd hp))
    have bad : firstAt ts t = none → ∀ d H', Same H0 H' → H0 d = none → H' d = some (.xd [("name", v)]) → ∀ σ' : L2.St, (∃ x3, σ' = [some (.ref st), some v, some (.int way), x3, none, none]) →
        wAs K (.ref CU) 4 th (fun _ _ _ _ => False) { nx := tRet (tCB (rRepr K) (tCons (tVar 3) tNil)) { nx := fun _ H' => Q .non H', rt := Q }, rt := Q } (.ref CU) (some d) σ' H' := fun z d' H' s' nd ed σ' ⟨x3, e⟩ => by
      subst e
      refine ⟨true, W.em, fun _ a ha => ?_, fun q => nomatch q⟩
      refine ⟨_, rfl, rfl, d', _, .ref uT, .ref uT, true, rfl, ed, rfl, fun u r => r, W.k1, _, rfl, ?_⟩
      refine iteT ⟨_, rfl, rfl, d', _, .ty "KeyError", .type "KeyError", true, rfl, ed, rfl, fun u r => r, W.k2, _, rfl, ?_⟩
      refine iteT ⟨_, rfl, rfl, d', _, .ref tT, .ref tT, false, rfl, ed, rfl, fun u r => r, W.k3, _, rfl, ?_⟩
      refine ⟨_, rfl, _, rfl, ?_⟩
      refine iteT ?_
      refine ⟨_, rfl, rfl, rfl, d', _, v, rfl, ed, rfl, by show 2 ≤ sizeLine; omega, fun p o hp ho => ?_⟩
      exact ⟨_, rfl, done "unknown" v t n (by decide +kernel) (by decide +kernel) (by omega) (by unfold namedT; rw [z]) H' s' ⟨bs, d0.same s', fun _ _ => trivial⟩ hn p o hp ho _ rfl⟩
    have lq := sa.lq
    have ti_at : ∀ {i : Nat}, firstAt ts t = some i → ∃ ti q rs w, ts[i]? = some ti ∧ qs[i]? = some q ∧ rss[i]? = some rs ∧ wv[i]? = some w ∧ RTup H0 q rs ∧ TbAt K H0 CT w ti := fun {i} e => by
      obtain ⟨ti, e1, _⟩ := first_is e
      have lt := (List.getElem?_eq_some_iff.mp e1).1
      obtain ⟨w, e4, tb⟩ := each_get' sa0.tb e1
      have e2 : qs[i]? = some qs[i] := List.getElem?_eq_getElem (by omega)
      obtain ⟨rs, e3, rt⟩ := each_get sa0.rw e2
      exact ⟨ti, _, rs, w, e1, e2, e3, e4, rt, tb⟩
    have goodT : way < 2 → ∀ {x3 : Option V} (i : Nat) (w : V) (H' : Hp), firstAt ts t = some i → wv[i]? = some w → Same H0 H' → ∃ a dx fs, w = .ref a ∧ H' a = some (.ins CT dx fs) ∧ spColumns K CT [.ref a] H' (fun x H1 => ([V.str (Str.ofString "table"), x] : List V).length ≤ sizeLine ∧ New H1 [V.str (Str.ofString "table"), x] fun y H1 =>
        gName 3 y [some (.ref st), some v, some (.int way), x3, none, none] H1 fun σ H => tRet (tCB (rRepr K) (tCons (tVar 3) tNil)) { nx := fun _ H' => Q .non H', rt := Q } σ H) E0 := fun hw {x3} i w H' fi hw' s' => by
      obtain ⟨ti, q, rs, w2, e1, e2, e3, e4, rt, tb⟩ := ti_at fi
      rw [hw'] at e4
      obtain rfl := Option.some.inj e4
      have okti := okt ti (List.mem_of_getElem? e1)
      obtain ⟨a, rfl, tb2⟩ := tb.same s'
      obtain ⟨dxa, a2, a3, a4, ha, _⟩ := tb2.ex
      refine ⟨a, dxa, _, rfl, ha, a, ti.nm, ti.ss, ti.zs, ti.ks, rfl, tb2, fun q' H2 s2 hq' => ⟨by show 2 ≤ sizeLine; omega, fun p o hp ho => ?_⟩⟩
      have nms : (ti.ss ++ ti.zs).all nmS = true := by
        rw [List.all_append, okti.n2, okti.n3]
        rfl
      have dt := (hq'.ts okti.ne).dt (K := K) nms
      have wl := ws_nms nms
      have := okti.l2
      have := okti.l3
      refine ⟨_, rfl, done "table" (.ref q') (.tup ((ti.ss ++ ti.zs).map Tr.str)) 1 (by decide +kernel) (by decide +kernel) ?_ ?_ H2 (s'.trans s2) ⟨_, dt, fun _ _ => trivial⟩ (by decide) p o hp ho _ rfl⟩
      · show 3 + Vm.ws _ ≤ 50000
        rw [List.length_append] at wl
        omega
      · unfold namedT
        rw [fi]
        dsimp only
        rw [e1, e3]
        dsimp only
        rw [if_pos hw]
        rfl
    have goodR : ¬ way < 2 → ∀ {x3 : Option V} (i : Nat) (q : Addr) (H' : Hp), firstAt ts t = some i → qs[i]? = some q → Same H0 H' → ([V.str (Str.ofString "rows"), .ref q] : List V).length ≤ sizeLine ∧ New H' [V.str (Str.ofString "rows"), .ref q] fun y H1 =>
        gName 3 y [some (.ref st), some v, some (.int way), x3, none, none] H1 fun σ H => tRet (tCB (rRepr K) (tCons (tVar 3) tNil)) { nx := fun _ H' => Q .non H', rt := Q } σ H := fun hw {x3} i q H' fi hq' s' => by
      obtain ⟨ti, q2, rs, w2, e1, e2, e3, e4, rt, tb⟩ := ti_at fi
      rw [hq'] at e2
      obtain rfl := Option.some.inj e2
      have okti := okt ti (List.mem_of_getElem? e1)
      obtain ⟨fr, fl⟩ := fit i ti rs e1 e3
      have wr := rows_w okti fr
      refine ⟨by show 2 ≤ sizeLine; omega, fun p o hp ho => ?_⟩
      refine ⟨_, rfl, done "rows" (.ref q) (.tup (rs.map rowT)) 2 (by decide +kernel) (by decide +kernel) ?_ ?_ H' s' ((rt.keep (Fz.of_same s')).dp fun r m => (fr r m).sm) (by decide) p o hp ho _ rfl⟩
      · show 3 + Vm.ws (rs.map rowT) ≤ 50000
        omega
      · unfold namedT
        rw [fi]
        dsimp only
        rw [e1, e3]
        dsimp only
        rw [if_neg hw]
    refine ⟨_, rfl, rfl, _, rfl, ite2 (fun e => ?_) (fun e0 => ?_)⟩
    · have hw : way < 2 := by
        have := V.int.inj (of_decide_eq_true e)
        omega
      refine ⟨_, rfl, st, dx, _, rfl, sa0.hs, rfl, _, rfl, ?_⟩
      dsimp only [tNil, kwP]
      exact mainT _ _ (fun i w H' fi hw' s' => goodT hw i w H' fi hw' s') (fun z d H' s' nd ed => bad z d H' s' nd ed _ ⟨_, rfl⟩)
    refine ⟨_, rfl, rfl, _, rfl, ite2 (fun e => ?_) (fun e1 => ?_)⟩
    · have hw : way < 2 := by
        have := V.int.inj (of_decide_eq_true e)
        omega
      refine ⟨_, rfl, st, dx, _, rfl, sa0.hs, rfl, _, rfl, ?_⟩
      dsimp only [tNil, kwP]
      exact mainT _ _ (fun i w H' fi hw' s' => goodT hw i w H' fi hw' s') (fun z d H' s' nd ed => bad z d H' s' nd ed _ ⟨_, rfl⟩)
    have hw : ¬ way < 2 := fun h => by
      have n0 : way ≠ 0 := fun z => e0 (decide_eq_true (by rw [z]))
      have n1 : way ≠ 1 := fun z => e1 (decide_eq_true (by rw [z]))
      omega
    refine ⟨_, rfl, rfl, _, rfl, ite2 (fun e => ?_) (fun e2 => ?_)⟩
    · refine ⟨_, rfl, st, dx, _, rfl, sa0.hs, rfl, _, rfl, ?_⟩
      dsimp only [tNil, kwP]
      exact mainR _ _ (fun i q H' fi hq' s' => goodR hw i q H' fi hq' s') (fun z d H' s' nd ed => bad z d H' s' nd ed _ ⟨_, rfl⟩)
    · refine ⟨_, rfl, st, dx, _, rfl, sa0.hs, rfl, _, rfl, ?_⟩
      dsimp only [tNil, kwP]
      exact mainR _ _ (fun i q H' fi hq' s' => goodR hw i q H' fi hq' s') (fun z d H' s' nd ed => bad z d H' s' nd ed _ ⟨_, rfl⟩)
end
end Vm
/-! the law: a change is judged rightly -/
namespace Vm
open PySem L2
abbrev sChgRight : Stmt := top 65
theorem any_perm {α : Type} {p : α → Bool} {l m : List α} (h : l.Perm m) : l.any p = m.any p := by
  rw [Bool.eq_iff_iff, List.any_eq_true, List.any_eq_true]
  exact ⟨fun ⟨x, a, b⟩ => ⟨x, h.mem_iff.mp a, b⟩, fun ⟨x, a, b⟩ => ⟨x, h.mem_iff.mpr a, b⟩⟩
theorem poss_perm {ti : Ti} {kd : Str} {us rs qs : List Row} (h : rs.Perm qs) : possR ti kd us rs = possR ti kd us qs := by
  have e1 : ∀ r : Row, decide (r ∈ rs) = decide (r ∈ qs) := fun r => decide_eq_decide.mpr h.mem_iff
  have e2 : ∀ r : Row, (leftR kd us rs).any (clashR ti r) = (leftR kd us qs).any (clashR ti r) := fun r => any_perm (h.filter _)
  unfold possR
  simp only [e1, e2]
theorem pos_sort (ts : List Ti) (rss : List (List Row)) (t : Tr) : posT ts (rss.map sortR) t = posT ts rss t := by
  cases t with
  | tup us =>
    show posL ts (rss.map sortR) us = posL ts rss us
    match us with
    | [] => rfl
    | [a] => cases a <;> rfl
    | a :: nm :: us =>
      cases a with
      | str kd =>
        unfold posL
        dsimp only
        cases firstAt ts nm with
        | none => rfl
        | some i =>
          dsimp only
          rw [List.getElem?_map]
          cases ts[i]? with
          | none => rfl
          | some ti =>
            cases rss[i]? with
            | none => rfl
            | some rs => exact poss_perm (sortR_perm rs)
      | _ => rfl
  | _ => rfl
theorem RkFit.fit {N : Nat} {ts : List Ti} {rss : List (List Row)} (h : RkFit N ts rss) (g : ∀ t ∈ ts, t.ok) : Fit N ts rss := fun i ti rs e1 e2 => ⟨g ti (List.mem_of_getElem? e1), fun r m => ((h i ti rs e1 e2).1 r m).ok, (h i ti rs e1 e2).2⟩
theorem RkFit.sort {N : Nat} {ts : List Ti} {rss : List (List Row)} (h : RkFit N ts rss) : RkFit N ts (rss.map sortR) := fun i ti rs e1 e2 => by
  rw [List.getElem?_map] at e2
  cases q : rss[i]? with
  | none => rw [q] at e2; cases e2
  | some rs0 =>
    rw [q] at e2
    obtain rfl := Option.some.inj e2
    obtain ⟨a, b⟩ := h i ti rs0 e1 q
    exact ⟨fun r m => a r ((sortR_perm rs0).mem_iff.mp m), by rw [(sortR_perm rs0).length_eq]; exact b⟩
def spChgRight (K : PySem.W.Frag) (C CT : Addr) : Sp := fun vs H Q _ => ∃ (N : Nat) (st dx tp rd : Addr) (ws : List V) (qs : List Addr) (w : Addr) (ps rls : List Addr) (ts : List Ti) (rss : List (List Row)) (v : V) (t : Tr) (n : Nat) (bs : List Addr), vs = [.ref st, .ref w, v] ∧
  StAt K H C CT st dx tp rd ws ts qs (rss.map sortR) ∧ Wl H w ps rls ts rss ∧ Wn ts ∧ RkFit N ts rss ∧ N ≤ 90 ∧ Dt K H v t n bs ∧ n ≤ 5 ∧ t.w ≤ 10000 ∧ ∀ H', Same H H' → Q (.bl true) H'
section
variable {P : Program} {w : World} {K : PySem.W.Frag} {mg : Str → Option Value} {base : Heap} {C CT fTO fRO fIC fIP fCh fPo fH : Addr} {g : List Value → List Value → List Value}
theorem scChgRight : FnScope ["_law_store_here", "_law_world_here", "_law_it", "_law_kept", "_law_due", "_law_wanted"] ["_law_store_here", "_law_world_here", "_law_it"] (defScope sChgRight) := ⟨rfl, rfl, rfl, by decide +kernel, rfl, by decide +kernel, by decide +kernel⟩
theorem ok_chgright {f : Addr} {fd fdC fdL fdP fdH : FuncData} (F : Fun K "_law_change_right" "_law_change_right" sChgRight f fd) (rp : mg "repr" = none) (S : TxtS K mg C fTO fRO fIC fIP)
    (GC : FnOk P w K mg base CX0 4 fIC fdC ["self", "thing"] (spIsChange K C CT)) (bC : Binds K fdC ["self", "thing"] []) (kC : KBinds K fdC ["self", "thing"] ["thing"] g kwP)
    (cL : Calls K mg "_law_is_change" fCh) (GL : FnOk P w K mg base CX0 3 fCh fdL ["_law_world_here", "_law_it"] (spIsChangeL K)) (bL : Binds K fdL ["_law_world_here", "_law_it"] [])
    (cP : Calls K mg "_law_is_possible" fPo) (GP : FnOk P w K mg base CX0 3 fPo fdP ["_law_world_here", "_law_deed"] (spPossL K)) (bP : Binds K fdP ["_law_world_here", "_law_deed"] [])
    (cH : Calls K mg "_law_heard" fH) (GH : FnG P w K mg base CX0 7 fH fdH ["_law_store_here", "_law_it", "_law_by_name"] (spHeard K C CT)) (bH : Binds K fdH ["_law_store_here", "_law_it", "_law_by_name"] []) :
    FnG P w K mg base CX0 8 f fd ["_law_store_here", "_law_world_here", "_law_it"] (spChgRight K C CT) := by
  refine okG0 F scChgRight (fun vs H Q E h => ?_) (fun cdv A outer s H vs Q E ag hr h => ?_)
  · obtain ⟨N, st, dx, tp, rd, ws, qs, w, ps, rls, ts, rss, v, t, n, bs, rfl, _⟩ := h
    rfl
  · obtain ⟨N, st, dx, tp, rd, wv, qs, w, ps, rls, ts, rss, v, t, n, bs, rfl, sa, wl, wn, fit, hN, d, hn, tw, k⟩ := h
    have hu : (A.deeper (PyProof.Rows.envOfC "_law_change_right" (defScope sChgRight) s.heap.objs.size f cdv)).units + 16 < cLine := by
      have := hr.units
      omega
    have hu8 : (A.deeper (PyProof.Rows.envOfC "_law_change_right" (defScope sChgRight) s.heap.objs.size f cdv)).units + 8 < cLine := by
      omega
    have hr3 : Room 3 _ := hr.mono (by decide)
    have hr4 : Room 4 _ := hr.mono (by decide)
    have big : sizeLine > 100000 := by decide
    have okt : ∀ t ∈ ts, t.ok := fun t m => (wn.ok t m).g
    refine ⟨_, pss_cons (ps_par (i := 3) (j := 4) rfl scChgRight.nd rfl rfl (by decide) rfl rfl (pa_cons (pe_callB (call_reprT ag hu) (by rfl) rp (by decide +kernel) (pa_cons (pv 2) pa_nil))
          (pa_cons (pe_call GL hr3 rfl cL.g cL.k bL .nil pass0 (pa_cons (pv 1) (pa_cons (pv 2) pa_nil))) pa_nil)) (by rfl))
      (pss_cons (ps_if (pt_cmpR op_ne (pe_callB (call_reprT ag hu) (by rfl) rp (by decide +kernel) (pa_cons (pe_lst (pa_cons (pe_meth (pv 0) S.cl S.mIC GC hr4 bC .nil pass0 (pa_cons (pv 2) pa_nil))
            (pa_cons (pe_mKS (E := fun _ => E0) (pv 0) S.cl S.mIC GC hr4 kC passN (pk_cons (pv 2) pk_nil)) (pa_cons (pv 2) pa_nil)))) pa_nil))
          (pe_callB (call_reprT ag hu) (by rfl) rp (by decide +kernel) (pa_cons (pe_lst (pa_cons (pv 4) (pa_cons (pv 4) (pa_cons (pv 2) pa_nil)))) pa_nil)) (nomark _)) (pss_one (ps_ret pe_bl)) pss_nil)
      (pss_cons (ps_set (i := 5) scChgRight.nd rfl (Or.inl rfl) (pe_callB (call_reprT ag hu) (by rfl) rp (by decide +kernel) (pa_cons (pe_ifExp (pt_val (pv 4)) (pe_tupF (pa_cons pe_str (pa_cons (pe_call GP hr3 rfl cP.g cP.k bP .nil pass0 (pa_cons (pv 1) (pa_cons (pv 2) pa_nil))) pa_nil)))
          (pe_tupF (pa_cons pe_str (pa_cons (pv 2) pa_nil)))) pa_nil)))
      (pss_one (ps_ret (pe_cmpR (op_eqP hu8) (pe_lst (pa_cons (pe_callG GH ag hr rfl cH.g cH.k bH (pa_cons (pv 0) (pa_cons (pv 2) (pa_cons pe_bl pa_nil)))) (pa_cons (pe_callG GH ag hr rfl cH.g cH.k bH (pa_cons (pv 0) (pa_cons (pv 2) (pa_cons pe_bl pa_nil))))
          (pa_cons (pe_callB (call_reprT ag hu) (by rfl) rp (by decide +kernel) (pa_cons (pv 2) pa_nil)) pa_nil)))) (pe_lst (pa_cons (pv 5) (pa_cons (pv 5) (pa_cons (pv 3) pa_nil)))) (nomark _)))))), ?_⟩
    have tt := Tr.text_le t
    have dp : ∀ {H' : Hp}, Same H H' → DP K H' (fun _ => True) v t n := fun s' => ⟨bs, d.same s', fun _ _ => trivial⟩
    refine ⟨_, rfl, v, t, n, bs, rfl, d, by omega, by omega, _, rfl, _, rfl, w, ps, rls, ts, rss, v, t, n, bs, rfl, wl, wn, d, tw, fun H1 s1 => ⟨_, _, rfl, ?_⟩⟩
    -- the two calls, by position and by name
    refine ⟨_, rfl, st, dx, _, rfl, (sa.same s1).hs, rfl, _, rfl, st, dx, tp, rd, wv, ts, qs, rss.map sortR, v, t, n, bs, rfl, sa.same s1, d.same s1, tw, fun H2 s2 => ?_⟩
    have s12 := s1.trans s2
    refine ⟨_, rfl, st, dx, _, rfl, (sa.same s12).hs, rfl, _, rfl, ?_⟩
    dsimp only [tNil, kwP]
    refine ⟨st, dx, tp, rd, wv, ts, qs, rss.map sortR, v, t, n, bs, rfl, sa.same s12, d.same s12, tw, fun H3 s3 => ?_⟩
    have s13 := s12.trans s3
    have lst : ∀ (H' : Hp) (c : Bool), Same H H' → ∀ q, H' q = none → ∃ bs', Dt K (upd H' q (.lst [.bl c, .bl c, v])) (.ref q) (.lst [.bl c, .bl c, t]) (n + 1) bs' := fun H' c s' q hq => by
      have dd : DPs K H' (fun _ => True) [.bl c, .bl c, v] [.bl c, .bl c, t] n := .cons (.bl c) (.cons (.bl c) (.cons (dp s') .nil))
      obtain ⟨bs', d', _⟩ := dd.lst hq trivial
      exact ⟨bs', d'⟩
    have lt : ∀ c : Bool, (Tr.lst [.bl c, .bl c, t]).text.length ≤ sizeLine := fun c => by
      have a := Tr.text_le (.lst [.bl c, .bl c, t])
      have b : (Tr.lst [.bl c, .bl c, t]).w = 3 + ((5 + 2) + ((5 + 2) + ((t.w + 2) + 0))) := rfl
      omega
    refine ⟨_, rfl, by show 3 ≤ sizeLine; omega, fun q hq => ?_⟩
    obtain ⟨b1, d1⟩ := lst H3 (isChg ts t) s13 q hq
    have s4 := same_upd (o := .lst [V.bl (isChg ts t), .bl (isChg ts t), v]) hq
    refine ⟨_, _, n + 1, b1, rfl, d1, by omega, lt _, ?_⟩
    have s14 := s13.trans s4
    generalize upd H3 q (.lst [V.bl (isChg ts t), .bl (isChg ts t), v]) = H4 at s4 s14 ⊢
    refine ⟨_, rfl, _, rfl, _, rfl, by show 3 ≤ sizeLine; omega, fun q5 hq5 => ?_⟩
    obtain ⟨b2, d2⟩ := lst H4 (isChg ts t) s14 q5 hq5
    have s5 := same_upd (o := .lst [V.bl (isChg ts t), .bl (isChg ts t), v]) hq5
    refine ⟨_, _, n + 1, b2, rfl, d2, by omega, lt _, ?_⟩
    have s15 := s14.trans s5
    generalize upd H4 q5 (.lst [V.bl (isChg ts t), .bl (isChg ts t), v]) = H5 at s5 s15 ⊢
    refine ⟨rfl, _, rfl, ?_⟩
    rw [decide_eq_true rfl]
    refine iteF ?_
    -- what is wanted
    have heard_w : (heardT ts (rss.map sortR) t).text.length ≤ sizeLine := by
      have a := Tr.text_le (heardT ts (rss.map sortR) t)
      have b : (heardT ts (rss.map sortR) t).w ≤ 10100 := by
        unfold heardT
        split
        · have c : ∀ x, (Tr.tup [.str "told", .bl x]).w ≤ 10100 := by
            intro x
            cases x <;> decide +kernel
          exact c _
        · have c : (reprText (Str.ofString "invalid")).length ≤ 20 := by decide +kernel
          show 3 + (((reprText (Str.ofString "invalid")).length + 2) + ((t.w + 2) + 0)) ≤ 10100
          omega
      omega
    have hT : (heardT ts (rss.map sortR) t) = (if isChg ts t = true then .tup [.str "told", .bl (posT ts rss t)] else .tup [.str "invalid", t]) := by
      unfold heardT
      rw [pos_sort]
    have rest : ∀ H6, Same H5 H6 → tRet (tOp (rEqP K false) (tLst (tCons (tCall (spHeard K C CT) [] E0 (tCons (tVar 0) (tCons (tVar 2) (tCons (tC (.bl false)) tNil)))) (tCons (tCall (spHeard K C CT) [] E0 (tCons (tVar 0) (tCons (tVar 2) (tCons (tC (.bl true)) tNil)))) (tCons (tCB (rRepr K) (tCons (tVar 2) tNil)) tNil))))
        (tLst (tCons (tVar 5) (tCons (tVar 5) (tCons (tVar 3) tNil))))) { nx := fun _ H' => Q .non H', rt := Q } [some (.ref st), some (.ref w), some v, some (.str t.text), some (.bl (isChg ts t)), some (.str (heardT ts (rss.map sortR) t).text)] H6 := fun H6 s6 => by
      have s16 := s15.trans s6
      have fitS : Fit N ts (rss.map sortR) := fit.sort.fit okt
      refine ⟨_, rfl, _, rfl, N, st, dx, tp, rd, wv, ts, qs, rss.map sortR, v, t, n, bs, false, rfl, sa.same s16, d.same s16, by omega, tw, fitS, hN, fun H7 s7 => ?_⟩
      have s17 := s16.trans s7
      refine ⟨_, rfl, _, rfl, N, st, dx, tp, rd, wv, ts, qs, rss.map sortR, v, t, n, bs, true, rfl, sa.same s17, d.same s17, by omega, tw, fitS, hN, fun H8 s8 => ?_⟩
      have s18 := s17.trans s8
      refine ⟨_, rfl, v, t, n, bs, rfl, d.same s18, by omega, by omega, by show 3 ≤ sizeLine; omega, fun p hp => ?_⟩
      have s9 := same_upd (o := .lst [V.str (heardT ts (rss.map sortR) t).text, .str (heardT ts (rss.map sortR) t).text, .str t.text]) hp
      have e9 : upd H8 p (.lst [V.str (heardT ts (rss.map sortR) t).text, .str (heardT ts (rss.map sortR) t).text, .str t.text]) p = some (.lst [V.str (heardT ts (rss.map sortR) t).text, .str (heardT ts (rss.map sortR) t).text, .str t.text]) := upd_same
      generalize upd H8 p (.lst [V.str (heardT ts (rss.map sortR) t).text, .str (heardT ts (rss.map sortR) t).text, .str t.text]) = H9 at s9 e9 ⊢
      refine ⟨_, rfl, _, rfl, _, rfl, by show 3 ≤ sizeLine; omega, fun q' hq' => ?_⟩
      have s10 := same_upd (o := .lst [V.str (heardT ts (rss.map sortR) t).text, .str (heardT ts (rss.map sortR) t).text, .str t.text]) hq'
      have all3 : ∀ H', DpAll K H' [V.str (heardT ts (rss.map sortR) t).text, .str (heardT ts (rss.map sortR) t).text, .str t.text] [PyData.str (heardT ts (rss.map sortR) t).text, .str (heardT ts (rss.map sortR) t).text, .str t.text] := fun H' => dpStrs K H' [(heardT ts (rss.map sortR) t).text, (heardT ts (rss.map sortR) t).text, t.text]
      refine ⟨.list [.str (heardT ts (rss.map sortR) t).text, .str (heardT ts (rss.map sortR) t).text, .str t.text], .list [.str (heardT ts (rss.map sortR) t).text, .str (heardT ts (rss.map sortR) t).text, .str t.text], .lst (SqL.of (s10 _ _ e9)) (all3 _), .lst (SqL.of upd_same) (all3 _), rfl, rfl, ?_, ?_⟩
      · show (PyData.list ([(heardT ts (rss.map sortR) t).text, (heardT ts (rss.map sortR) t).text, t.text].map PyData.str)).depth ≤ 6
        simp only [PyData.depth, depthStrs]
        decide
      · have e : PyData.eqv (.list [.str (heardT ts (rss.map sortR) t).text, .str (heardT ts (rss.map sortR) t).text, .str t.text]) (.list [.str (heardT ts (rss.map sortR) t).text, .str (heardT ts (rss.map sortR) t).text, .str t.text]) = true := by
          have h := eqvStrs [(heardT ts (rss.map sortR) t).text, (heardT ts (rss.map sortR) t).text, t.text] [(heardT ts (rss.map sortR) t).text, (heardT ts (rss.map sortR) t).text, t.text]
          rw [decide_eq_true rfl] at h
          exact h
        show Q (.bl (PyData.eqv _ _)) _
        rw [e]
        exact k _ ((s18.trans s9).trans s10)
    refine ⟨_, rfl, isChg ts t, rfl, ?_⟩
    cases hc : isChg ts t with
    | true =>
      rw [hc] at rest hT
      rw [if_pos rfl] at hT
      rw [hT] at rest heard_w
      obtain ⟨p, kd, i, ti, xs, us, rs, rfl, et, hp, hxs, eti, ers, fi, ou, hl, _, ep, _⟩ := chg_at (fit.fit okt) wl.ls d hc
      refine iteT ⟨_, rfl, _, rfl, w, p, ps, rls, ts, rss, kd, i, ti, xs, us, rs, rfl, wl.same s15, wn.nd, sameT s15 hp, RowsAt.keep (Fz.of_same s15) hxs, eti, ers, okt ti (List.mem_of_getElem? eti), ou, fun r m => ((fit i ti rs eti ers).1 r m).ok, by have := (fit i ti rs eti ers).2; omega, wn.few, hl, fun H6 s6 => ⟨by show 2 ≤ sizeLine; omega, fun p7 o7 hp7 ho7 => ?_⟩⟩
      rw [← ep]
      have dd : DPs K H6 (fun _ => True) [V.str (Str.ofString "told"), .bl (posT ts rss t)] [.str "told", .bl (posT ts rss t)] 0 := .cons (.str (by decide +kernel) (by decide +kernel)) (.cons (.bl _) .nil)
      obtain ⟨b7, d7, _⟩ := dd.tup hp7 trivial ho7
      exact ⟨_, _, 1, b7, rfl, d7, by decide, heard_w, rest _ (s6.trans (same_upd hp7))⟩
    | false =>
      rw [hc] at rest hT
      rw [if_neg Bool.false_ne_true] at hT
      rw [hT] at rest heard_w
      refine iteF ⟨_, rfl, by show 2 ≤ sizeLine; omega, fun p7 o7 hp7 ho7 => ?_⟩
      have dd : DPs K H5 (fun _ => True) [V.str (Str.ofString "invalid"), v] [.str "invalid", t] n := .cons (.str (by decide +kernel) (by decide +kernel)) (.cons (dp s15) .nil)
      obtain ⟨b7, d7, _⟩ := dd.tup hp7 trivial ho7
      exact ⟨_, _, n + 1, b7, rfl, d7, by omega, heard_w, rest _ (same_upd hp7)⟩
end
end Vm
/-! the law: names are judged rightly -/
namespace Vm
open PySem L2
abbrev sNamesRight : Stmt := top 64
theorem upB : ((List.range 128).all fun c => (Unicode.upperOf c).all fun d => decide (d < 16 ^ 8)) = true := by decide +kernel
theorem upper_text {x : Str} (h : nmS x = true) : (reprText (Txt.upper x)).length ≤ 242 ∧ (Txt.upper x).length ≤ 24 := by
  have n8 := (nm_text h).2
  have l := PyProof.Rows.len_upper x
  unfold nmS at h
  rw [Bool.and_eq_true, Bool.and_eq_true, decide_eq_true_eq, decide_eq_true_eq, List.all_eq_true] at h
  obtain ⟨_, h8, hl⟩ := h
  have e := StrLaws.reprText_len (Txt.upper x) fun c hc => by
    have hc2 : c ∈ (x.cps.mapIdx fun i c => (Unicode.upperOf c).toArray).flatten.toList := hc
    rw [Array.mem_toList_iff, Array.mem_flatten] at hc2
    obtain ⟨l, hl1, hl2⟩ := hc2
    rw [Array.mem_mapIdx] at hl1
    obtain ⟨i, hi, rfl⟩ := hl1
    have m : x.cps[i] ∈ x.cps.toList := by
      rw [Array.mem_toList_iff]
      exact Array.getElem_mem hi
    have z := hl _ m
    unfold lowB at z
    rw [Bool.and_eq_true, decide_eq_true_eq, decide_eq_true_eq] at z
    have q := List.all_eq_true.mp upB x.cps[i] (List.mem_range.mpr (by omega))
    rw [List.mem_toArray] at hl2
    exact of_decide_eq_true (List.all_eq_true.mp q c hl2)
  omega
theorem x_text {x : Str} (h : nmS x = true) : (reprText (x ++ Str.ofString "x")).length ≤ 92 ∧ (x ++ Str.ofString "x").length ≤ 9 := by
  unfold nmS at h
  rw [Bool.and_eq_true, Bool.and_eq_true, decide_eq_true_eq, decide_eq_true_eq, List.all_eq_true] at h
  obtain ⟨_, h8, hl⟩ := h
  have ls : (Str.ofString "x").length = 1 := by decide +kernel
  have l9 : (x ++ Str.ofString "x").length ≤ 9 := by
    rw [strLen_append, ls]
    omega
  have e := StrLaws.reprText_len (x ++ Str.ofString "x") fun c hc => by
    have hc2 : c ∈ (x.cps ++ (Str.ofString "x").cps).toList := hc
    rw [Array.toList_append] at hc2
    rcases List.mem_append.mp hc2 with m | m
    · have z := hl c m
      unfold lowB at z
      rw [Bool.and_eq_true, decide_eq_true_eq, decide_eq_true_eq] at z
      omega
    · have e2 : (Str.ofString "x").cps.toList = [120] := by decide +kernel
      rw [e2] at m
      rw [List.mem_singleton.mp m]
      decide
  omega
theorem plain_strs : ∀ ss : List Str, PyData.plainAll (ss.map PyData.str) = true
  | [] => rfl
  | x :: r => by
    show (true && PyData.plainAll (r.map PyData.str)) = true
    rw [plain_strs r]
    rfl
/-- what is due, behind j tables -/
def dueAt (ts : List Ti) (rss : List (List Row)) (t : Tr) (j : Nat) (way : Int) : Tr := match firstAt ts t with
  | some i => if i < j then namedT ts rss t way else .tup [.str "unknown", t]
  | none => .tup [.str "unknown", t]
theorem due_all {ts : List Ti} {rss : List (List Row)} {t : Tr} {way : Int} : dueAt ts rss t ts.length way = namedT ts rss t way := by
  unfold dueAt
  cases e : firstAt ts t with
  | none =>
    unfold namedT
    rw [e]
  | some i =>
    obtain ⟨ti, e1, _⟩ := first_is e
    dsimp only
    rw [if_pos (List.getElem?_eq_some_iff.mp e1).1]
theorem due_0 {ts : List Ti} {rss : List (List Row)} {t : Tr} {way : Int} : dueAt ts rss t 0 way = .tup [.str "unknown", t] := by
  unfold dueAt
  cases firstAt ts t with
  | none => rfl
  | some i =>
    dsimp only
    rw [if_neg (Nat.not_lt_zero i)]
theorem due_no {ts : List Ti} {rss : List (List Row)} {t : Tr} {way : Int} {j : Nat} (h : firstAt ts t ≠ some j) : dueAt ts rss t (j + 1) way = dueAt ts rss t j way := by
  unfold dueAt
  cases e : firstAt ts t with
  | none => rfl
  | some i =>
    dsimp only
    have ne : i ≠ j := fun z => h (by rw [e, z])
    by_cases q : i < j
    · rw [if_pos q, if_pos (by omega)]
    · rw [if_neg q, if_neg (by omega)]
def spNamesRight (K : PySem.W.Frag) (C CT : Addr) : Sp := fun vs H Q _ => ∃ (N : Nat) (s l : Addr) (ms : List Int) (z b : Int) (st dx tp rd : Addr) (wv : List V) (qs : List Addr) (w : Addr) (ps rls : List Addr) (ts : List Ti) (rss : List (List Row)), vs = [.ref s, .ref st, .ref w] ∧
  Src H s l ms z b ∧ 0 ≤ b ∧ b < 800000 ∧ StAt K H C CT st dx tp rd wv ts qs (rss.map sortR) ∧ Wl H w ps rls ts rss ∧ Wn ts ∧ (∀ c ∈ w :: (ps ++ rls), Off s l c) ∧ RkFit N ts rss ∧ N ≤ 90 ∧
  ∀ (H' : Hp) (ms' : List Int) (b' : Int), But s l H H' → Src H' s l ms' z b' → b ≤ b' → b' ≤ b + 10 → Q (.bl true) H'
section
variable {P : Program} {w : World} {K : PySem.W.Frag} {mg : Str → Option Value} {base : Heap} {C CT fNm fNms fD fP fO fN : Addr}
theorem scNamesRight : FnScope ["_law_source_here", "_law_store_here", "_law_world_here", "_law_known", "_law_it", "_law_due", "_law_some", "_law_rows", "_law_way", "_law_one", "_law_k"] ["_law_source_here", "_law_store_here", "_law_world_here"] (defScope sNamesRight) := ⟨rfl, rfl, rfl, by decide +kernel, rfl, by decide +kernel, by decide +kernel⟩
theorem ok_namesright {f : Addr} {fd fdO fdN : FuncData} (F : Fun K "_law_names_right" "_law_names_right" sNamesRight f fd) (T : TxtL K mg fD fP) (TP : TxtP K mg fNm fNms) (rp : mg "repr" = none) (sorted : mg "sorted" = none)
    (cO : Calls K mg "_law_odd" fO) (GO : FnOk P w K mg base CX0 3 fO fdO ["_law_source_here"] (spOdd K)) (bO : Binds K fdO ["_law_source_here"] [])
    (cN : Calls K mg "_law_named" fN) (GN : FnG P w K mg base CX0 5 fN fdN ["_law_store_here", "_law_it", "_law_way"] (spNamedL K C CT)) (bN : Binds K fdN ["_law_store_here", "_law_it", "_law_way"] []) :
    FnG P w K mg base CX0 6 f fd ["_law_source_here", "_law_store_here", "_law_world_here"] (spNamesRight K C CT) := by
  refine okG0 F scNamesRight (fun vs H Q E h => ?_) (fun cdv A outer s H vs Q E ag hr h => ?_)
  · obtain ⟨N, s, l, ms, z, b, st, dx, tp, rd, wv, qs, w, ps, rls, ts, rss, rfl, _⟩ := h
    rfl
  · obtain ⟨N, a, l, ms, z, b, st, dx, tp, rd, wv, qs, w, ps, rls, ts, rss, rfl, hs, b0, b1, sa, wl, wn, off, fit, hN, k⟩ := h
    have hu : (A.deeper (PyProof.Rows.envOfC "_law_names_right" (defScope sNamesRight) s.heap.objs.size f cdv)).units + 16 < cLine := by
      have := hr.units
      omega
    have hu8 : (A.deeper (PyProof.Rows.envOfC "_law_names_right" (defScope sNamesRight) s.heap.objs.size f cdv)).units + 8 < cLine := by
      omega
    have hr3 : Room 3 _ := hr.mono (by decide)
    have big : sizeLine > 100000 := by decide
    have okt : ∀ t ∈ ts, t.ok := fun t m => (wn.ok t m).g
    refine ⟨_, pss_cons (ps_setLc (i := 3) (own := [("_law_some", 6), ("_law_rows", 7)]) (g := gLst K 2 (gCons (gName 6) (gCons (gName 7) gNil))) (tt := tYes) (te := tOp (rIxT K) (tVar 6) (tC (.int 0))) rfl scNamesRight.nd rfl rfl (sw_true rfl rfl rfl (by decide +kernel)) (pi_list (pv 2))
          (blkOk_by (N := ["_law_source_here", "_law_store_here", "_law_world_here", "_law_known", "_law_it", "_law_due", "_law_some", "_law_rows", "_law_way", "_law_one", "_law_k"]) (sc := defScope sNamesRight) (by decide +kernel))
          (fun _ _ _ _ _ => by exact (pg_lst rfl (by exact (pgs_cons (pg_name (i := 6) scNamesRight.nd rfl (Or.inl rfl)) (by exact (pgs_cons (pg_name (i := 7) scNamesRight.nd rfl (Or.inl rfl)) pgs_nil)))))) (fun _ _ _ _ _ => pts_nil)
          (fun _ _ _ _ _ => by exact (pe_ix ix_tup (pv 6) pe_int (fun _ _ => rfl))))
      (pss_cons (ps_for PassesOwn.never rfl (pi_list (pe_op op_cat (pe_op op_cat (pv 3)
            (pe_lc (own := [("_law_k", 10)]) (g := gName 10) (tt := tYes) (te := tCall (spOdd K) [] E0 (tCons (tVar 0) tNil)) rfl scNamesRight.nd (pi_range1 rfl T.range (pa_cons pe_int pa_nil))
              (blkOk_by (N := ["_law_source_here", "_law_store_here", "_law_world_here", "_law_known", "_law_it", "_law_due", "_law_some", "_law_rows", "_law_way", "_law_one", "_law_k"]) (sc := defScope sNamesRight) (by decide +kernel))
              (fun _ _ _ _ _ => pg_name (i := 10) scNamesRight.nd rfl (Or.inl rfl)) (fun _ _ _ _ _ => pts_nil) (fun _ _ _ _ _ => by exact (pe_call GO hr3 rfl cO.g cO.k bO .nil pass0 (pa_cons (pv 0) pa_nil)))))
            (pe_lst (pa_cons (pe_op op_add_str (pe_ix ix_list (pv 3) pe_int (fun _ _ => rfl)) pe_str) (pa_cons (pe_bm0 PySem.F.plainAttrs_str PySem.F.slot_str_upper PySem.F.type_str_upper mt_upper (pe_ix ix_list (pv 3) pe_int (fun _ _ => rfl)))
              (pa_cons (pe_tupF (pa_cons (pe_ix ix_list (pv 3) pe_int (fun _ _ => rfl)) pa_nil)) (pa_cons pe_non pa_nil)))))))
          (pg_name (i := 4) scNamesRight.nd rfl (Or.inr rfl))
        (pss_cons (ps_set (i := 5) scNamesRight.nd rfl (Or.inl rfl) (pe_op op_rep (pe_lst (pa_cons (pe_tupF (pa_cons pe_str (pa_cons (pv 4) pa_nil))) pa_nil)) pe_int))
        (pss_cons (ps_for PassesOwn.never rfl (pi_list (pv 2)) (pg_lst rfl (pgs_cons (pg_name (i := 6) scNamesRight.nd rfl (Or.inl rfl)) (pgs_cons (pg_name (i := 7) scNamesRight.nd rfl (Or.inl rfl)) pgs_nil)))
          (pss_one (ps_if (PW.pt (pw_and (pt_val (pe_callB call_isi (by rfl) TP.isi (by decide +kernel) (pa_cons (pv 4) (pa_cons (pe_bltn (v := .ty "str") (by rfl) TP.str (by decide +kernel) rfl) pa_nil))))
              (pw_and1 (pt_cmpR op_eq (pe_ix ix_tup (pv 6) pe_int (fun _ _ => rfl)) (pv 4) (nomark _)))))
            (pss_one (ps_set (i := 5) scNamesRight.nd rfl (Or.inl rfl) (pe_op op_cat
              (pe_op op_rep (pe_lst (pa_cons (pe_tupF (pa_cons pe_str (pa_cons (pe_op op_catE (pe_ix ix_tup (pv 6) pe_int (fun _ _ => rfl)) (pe_ix ix_tup (pv 6) pe_int (fun _ _ => rfl))) pa_nil))) pa_nil)) pe_int)
              (pe_op op_rep (pe_lst (pa_cons (pe_tupF (pa_cons pe_str (pa_cons (pe_callTy call_tupleF (by rfl) T.tuple (by decide +kernel) (pa_cons (pe_callB (call_sortedR hu8) (by rfl) sorted (by decide +kernel) (pa_cons (pv 7) pa_nil)) pa_nil)) pa_nil))) pa_nil)) pe_int)))) pss_nil)))
        (pss_one (ps_if (pt_cmpR (op_neP hu8) (pe_lc (own := [("_law_way", 8)]) (g := gName 8) (tt := tYes) (te := tCall (spNamedL K C CT) [] E0 (tCons (tVar 1) (tCons (tVar 4) (tCons (tVar 8) tNil)))) rfl scNamesRight.nd (pi_range1 rfl T.range (pa_cons pe_int pa_nil))
              (blkOk_by (N := ["_law_source_here", "_law_store_here", "_law_world_here", "_law_known", "_law_it", "_law_due", "_law_some", "_law_rows", "_law_way", "_law_one", "_law_k"]) (sc := defScope sNamesRight) (by decide +kernel))
              (fun _ _ _ _ _ => pg_name (i := 8) scNamesRight.nd rfl (Or.inl rfl)) (fun _ _ _ _ _ => pts_nil) (fun _ _ _ _ _ => by exact (pe_callG GN ag hr rfl cN.g cN.k bN (pa_cons (pv 1) (pa_cons (pv 4) (pa_cons (pv 8) pa_nil))))))
            (pe_lc (own := [("_law_one", 9)]) (g := gName 9) (tt := tYes) (te := tCB (rRepr K) (tCons (tVar 9) tNil)) rfl scNamesRight.nd (pi_list (pv 5))
              (blkOk_by (N := ["_law_source_here", "_law_store_here", "_law_world_here", "_law_known", "_law_it", "_law_due", "_law_some", "_law_rows", "_law_way", "_law_one", "_law_k"]) (sc := defScope sNamesRight) (by decide +kernel))
              (fun _ _ _ _ _ => pg_name (i := 9) scNamesRight.nd rfl (Or.inl rfl)) (fun _ _ _ _ _ => pts_nil) (fun _ _ _ _ _ => by exact (pe_callB (call_reprT ag hu) (by rfl) rp (by decide +kernel) (pa_cons (pv 9) pa_nil)))) (nomark _))
          (pss_one (ps_ret pe_bl)) pss_nil)))))
      (pss_one (ps_ret pe_bl))), ?_⟩
    have few3 := wn.few
    have rssS := rss.map sortR
    refine ⟨_, rfl, w, rfl, ⟨_, SqL.of wl.hw⟩, fun D hD => ?_⟩
    refine lc_list (K := K) (a := w) (xs := ps.map V.ref) (fun i H' => Same H H' ∧ H' D = some (.lst (((ts.take i).map Ti.nm).map V.str))) ⟨same_upd hD, upd_same⟩ (fun i H' _ z => SqL.of (z.1 _ _ wl.hw)) ?_ ?_
    · rintro i y H2 hi ⟨s2, e2⟩
      have lt : i < ts.length := by
        have := (List.getElem?_eq_some_iff.mp hi).1
        rw [List.length_map, wl.lp] at this
        exact this
      obtain ⟨p, rl, t, rs, e1, _, e3, e4, sm, vs, h0, ⟨o, a1, a2, a3, hsm, hod, _⟩, _, _⟩ := wl.at lt
      rw [List.getElem?_map, e1] at hi
      obtain rfl := Option.some.inj hi
      refine ⟨p, [.ref sm, .ref rl], rfl, SqL.of (s2 _ _ h0), rfl, _, _, rfl, _, _, rfl, rfl, ?_⟩
      refine ⟨rfl, ?_⟩
      dsimp only [tYes]
      rw [if_pos rfl]
      refine ⟨_, rfl, sm, _, 0, .str t.nm, rfl, rfl, .inl (.inr ⟨o, s2 _ _ hsm⟩), rfl, _, e2, ?_, fun b u e => ?_, ?_⟩
      · rw [List.length_map, List.length_map, List.length_take]
        omega
      · rw [upd_ne (ne_of_none e hD)]
        exact s2 b u e
      · rw [upd_same, List.take_add_one, e3]
        simp
    rintro H1 ⟨s1, e1⟩
    rw [List.length_map, wl.lp, List.take_length] at e1
    have hs1 := hs.but s1
    refine ⟨_, rfl, 4, rfl, by decide, by decide, fun D2 hD2 => ?_⟩
    have fD2 := hs1.free hD2
    refine lc_range (lo := 0) (n := (4 : Int).toNat) (fun i H' => ∃ (ms' : List Int) (xs : List V) (us : List Tr), But a l H1 H' ∧ Src H' a l ms' z (b + (i : Int)) ∧ H' D2 = some (.lst xs) ∧ DPs K H' (fun c => Off a l c ∧ c ≠ D2) xs us 2 ∧ xs.length = i ∧ ∀ u ∈ us, u.w ≤ 60) ?_ ?_ ?_
    · refine ⟨ms, [], [], But.put (fun _ _ _ _ e => e) hD2, ?_, upd_same, .nil, rfl, fun _ m => nomatch m⟩
      rw [show b + ((0 : Nat) : Int) = b by omega]
      exact hs1.put fD2
    · rintro i H2 hi ⟨ms2, xs, us, k2, hs2, e2, ds, lx, wx⟩
      have hi4 : i < 4 := hi
      refine ⟨rfl, ?_⟩
      dsimp only [tYes]
      rw [if_pos rfl]
      refine ⟨_, rfl, a, l, ms2, z, b + (i : Int), rfl, hs2, by omega, by omega, fun H3 ms3 v t k3 hs3 d3 w3 => ⟨xs, k3 _ _ fD2.1 fD2.2 e2, by omega, ms3, xs ++ [v], us ++ [t], (k2.trans k3).put hD2, ?_, upd_same, ?_, by rw [List.length_append, lx]; rfl, fun u m => ?_⟩⟩
      · rw [show b + ((i + 1 : Nat) : Int) = b + (i : Int) + 1 by omega]
        exact hs3.put fD2
      · have up : ∀ c o, (Off a l c ∧ c ≠ D2) → H3 c = some o → upd H3 D2 (.lst (xs ++ [v])) c = some o := fun c o q e => by
          rw [upd_ne q.2]
          exact e
        have n2 : ∀ c, (Off a l c ∧ H2 c = none) → Off a l c ∧ c ≠ D2 := fun c q => ⟨q.1, fun z => by
          rw [z, e2] at q
          cases q.2⟩
        refine DPs.append ?_ (.cons ((d3.imp n2).keep up) .nil)
        exact (ds.keep fun c o q e => k3 c o q.1.1 q.1.2 e).keep up
      · rcases List.mem_append.mp m with m | m
        · exact wx u m
        · rw [List.mem_singleton.mp m]
          exact w3
    rintro H2 ⟨ms2, xo, uo, k2, hs2, e2, dso, lxo, wo⟩
    have lxo4 : xo.length = 4 := lxo
    have k02 := (But.of_same (s := a) (l := l) s1).trans k2
    have fD := hs.free hD
    have e1' := k2 _ _ fD.1 fD.2 e1
    obtain ⟨t0, tr, ets⟩ : ∃ t0 tr, ts = t0 :: tr := by
      cases h : ts with
      | nil =>
        have := wn.one
        rw [h] at this
        exact absurd this (by decide)
      | cons a b => exact ⟨a, b, rfl⟩
    have n0 : nmS t0.nm = true := (okt t0 (by rw [ets]; exact List.mem_cons_self)).n1
    have knl : (ts.map Ti.nm).map V.str = .str t0.nm :: (tr.map Ti.nm).map V.str := by
      rw [ets]
      rfl
    have lkn : ((ts.map Ti.nm).map V.str).length ≤ 3 := by
      rw [List.length_map, List.length_map]
      exact few3
    have kn : ∀ {H' : Hp}, Same H2 H' → SqL K H' D (.str t0.nm :: (tr.map Ti.nm).map V.str) := fun {H'} s' => by
      rw [← knl]
      exact SqL.of (s' _ _ e1')
    refine ⟨D, D2, _, _, rfl, rfl, e1', e2, by omega, fun p1 hp1 => ?_⟩
    have s3 := same_upd (o := .lst ((ts.map Ti.nm).map V.str ++ xo)) hp1
    have e3 : upd H2 p1 (.lst ((ts.map Ti.nm).map V.str ++ xo)) p1 = some (.lst ((ts.map Ti.nm).map V.str ++ xo)) := upd_same
    generalize upd H2 p1 (.lst ((ts.map Ti.nm).map V.str ++ xo)) = H3 at s3 e3 ⊢
    obtain ⟨x1, x2⟩ := x_text n0
    obtain ⟨y1, y2⟩ := upper_text n0
    have l0 := (nm_text n0).2
    have lx1 : (Str.ofString "x").length = 1 := by decide +kernel
    refine ⟨_, rfl, D, _, 0, .str t0.nm, rfl, rfl, kn s3, at0, _, _, rfl, rfl, by omega, ?_⟩
    refine ⟨_, rfl, D, _, 0, .str t0.nm, rfl, rfl, kn s3, at0, rfl, _, rfl, rfl, by omega, ?_⟩
    refine ⟨_, rfl, D, _, 0, .str t0.nm, rfl, rfl, kn s3, at0, by show 1 ≤ sizeLine; omega, fun p3 o3 hp3 ho3 => ?_⟩
    have s4 := same_upd (o := .frz o3 (.tup [V.str t0.nm])) hp3
    have d4 : DP K (upd H3 p3 (.frz o3 (.tup [V.str t0.nm]))) (fun _ => True) (.ref p3) (.tup [.str t0.nm]) 2 := (DPs.cons (DP.nm n0 (n := 1)) .nil).tup hp3 trivial ho3
    generalize upd H3 p3 (.frz o3 (.tup [V.str t0.nm])) = H4 at s4 d4 ⊢
    refine ⟨by show 4 ≤ sizeLine; omega, fun p4 hp4 => ?_⟩
    have s5 := same_upd (o := .lst [V.str (t0.nm ++ Str.ofString "x"), .str (Txt.upper t0.nm), .ref p3, .non]) hp4
    refine ⟨p1, p4, _, _, rfl, rfl, s5 _ _ (s4 _ _ e3), upd_same, ?_, fun LL hLL => ?_⟩
    · show ((ts.map Ti.nm).map V.str ++ xo).length + 4 ≤ sizeLine
      rw [List.length_append]
      omega
    have s6 := same_upd (o := .lst (((ts.map Ti.nm).map V.str ++ xo) ++ [V.str (t0.nm ++ Str.ofString "x"), .str (Txt.upper t0.nm), .ref p3, .non])) hLL
    have s26 := ((s3.trans s4).trans s5).trans s6
    have k06 : But a l H _ := k02.trans (But.of_same s26)
    have hs6 := hs2.but s26
    have e6 : upd (upd H4 p4 (.lst [V.str (t0.nm ++ Str.ofString "x"), .str (Txt.upper t0.nm), .ref p3, .non])) LL (.lst (((ts.map Ti.nm).map V.str ++ xo) ++ [V.str (t0.nm ++ Str.ofString "x"), .str (Txt.upper t0.nm), .ref p3, .non])) LL = some (.lst (((ts.map Ti.nm).map V.str ++ xo) ++ [V.str (t0.nm ++ Str.ofString "x"), .str (Txt.upper t0.nm), .ref p3, .non])) := upd_same
    have nms : (ts.map Ti.nm).all nmS = true := List.all_eq_true.mpr fun x m => by
      obtain ⟨t, mt, rfl⟩ := List.mem_map.mp m
      exact (okt t mt).n1
    have ds6 : DPs K (upd (upd H4 p4 (.lst [V.str (t0.nm ++ Str.ofString "x"), .str (Txt.upper t0.nm), .ref p3, .non])) LL (.lst (((ts.map Ti.nm).map V.str ++ xo) ++ [V.str (t0.nm ++ Str.ofString "x"), .str (Txt.upper t0.nm), .ref p3, .non]))) (fun _ => True) (((ts.map Ti.nm).map V.str ++ xo) ++ [V.str (t0.nm ++ Str.ofString "x"), .str (Txt.upper t0.nm), .ref p3, .non])
        (((ts.map Ti.nm).map Tr.str ++ uo) ++ [.str (t0.nm ++ Str.ofString "x"), .str (Txt.upper t0.nm), .tup [.str t0.nm], .non]) 2 :=
      ((DPs.nms nms).append ((dso.imp fun _ _ => trivial).same s26)).append (.cons (.str (by omega) (by omega)) (.cons (.str (by omega) (by omega)) (.cons ((d4.same s5).same s6) (.cons .non .nil))))
    have w6 : ∀ u ∈ (((ts.map Ti.nm).map Tr.str ++ uo) ++ [.str (t0.nm ++ Str.ofString "x"), .str (Txt.upper t0.nm), .tup [.str t0.nm], .non]), u.w ≤ 300 := by
      intro u m
      rcases List.mem_append.mp m with m | m
      · rcases List.mem_append.mp m with m | m
        · obtain ⟨x, mx, rfl⟩ := List.mem_map.mp m
          have := (nm_text (List.all_eq_true.mp nms x mx)).1
          show (reprText x).length ≤ 300
          omega
        · have := wo u m
          omega
      · simp only [List.mem_cons, List.not_mem_nil, or_false] at m
        have q1 := (nm_text n0).1
        rcases m with e | e | e | e <;> subst e
        · show (reprText _).length ≤ 300
          omega
        · show (reprText _).length ≤ 300
          omega
        · show 3 + (((reprText t0.nm).length + 2) + 0) ≤ 300
          omega
        · decide
    generalize upd (upd H4 p4 (.lst [V.str (t0.nm ++ Str.ofString "x"), .str (Txt.upper t0.nm), .ref p3, .non])) LL (.lst (((ts.map Ti.nm).map V.str ++ xo) ++ [V.str (t0.nm ++ Str.ofString "x"), .str (Txt.upper t0.nm), .ref p3, .non])) = H6 at k06 hs6 e6 ds6 ⊢
    generalize (((ts.map Ti.nm).map V.str ++ xo) ++ [V.str (t0.nm ++ Str.ofString "x"), .str (Txt.upper t0.nm), .ref p3, .non]) = zs at e6 ds6
    generalize (((ts.map Ti.nm).map Tr.str ++ uo) ++ [.str (t0.nm ++ Str.ofString "x"), .str (Txt.upper t0.nm), .tup [.str t0.nm], .non]) = us at ds6 w6
    have sa6 := sa.nl (k06.nl hs)
    have wl6 := wl.keep (fun c m o e => k06 _ _ (off c m).1 (off c m).2 e) (k06.fz hs)
    refine ⟨LL, rfl, ⟨_, SqL.of e6⟩, for_list (K := K) (a := LL) (xs := zs) (fun i σ H' => ∃ v4 v5 v6 v7 v8 v9 v10 : Option V, σ = [some (.ref a), some (.ref st), some (.ref w), some (.ref D), v4, v5, v6, v7, v8, v9, v10] ∧ Same H6 H')
      ⟨none, none, none, none, none, none, none, rfl, Same.refl H6⟩ (fun i σ H' _ ⟨_, _, _, _, _, _, _, _, s'⟩ => SqL.of (s' _ _ e6)) ?_ ?_⟩
    · rintro i y σ G hi ⟨v4, v5, v6, v7, v8, v9, v10, rfl, sG⟩
      obtain ⟨u, hu', du⟩ := ds6.get hi
      have wu := w6 u (List.mem_of_getElem? hu')
      have dG := du.same sG
      have fitS := fit.sort
      have nw : ∀ way, (namedT ts (rss.map sortR) u way).w ≤ 60000 := fun way => by
        unfold namedT
        cases e : firstAt ts u with
        | none =>
          have c : (reprText (Str.ofString "unknown")).length ≤ 20 := by decide +kernel
          show 3 + (((reprText (Str.ofString "unknown")).length + 2) + ((u.w + 2) + 0)) ≤ 60000
          omega
        | some i =>
          dsimp only
          obtain ⟨ti, e1, _⟩ := first_is e
          rw [e1]
          cases e2 : (rss.map sortR)[i]? with
          | none =>
            show 4 ≤ 60000
            omega
          | some rs =>
            dsimp only
            have g := okt ti (List.mem_of_getElem? e1)
            obtain ⟨f1, f2⟩ := fitS i ti rs e1 e2
            split
            · have nn : (ti.ss ++ ti.zs).all nmS = true := by
                rw [List.all_append, g.n2, g.n3]
                rfl
              have wl := ws_nms nn
              have := g.l2
              have := g.l3
              rw [List.length_append] at wl
              have c : (reprText (Str.ofString "table")).length ≤ 20 := by decide +kernel
              show 3 + (((reprText (Str.ofString "table")).length + 2) + (((3 + Vm.ws ((ti.ss ++ ti.zs).map Tr.str)) + 2) + 0)) ≤ 60000
              omega
            · have wr := rows_w g f1
              have c : (reprText (Str.ofString "rows")).length ≤ 20 := by decide +kernel
              show 3 + (((reprText (Str.ofString "rows")).length + 2) + (((3 + Vm.ws (rs.map rowT)) + 2) + 0)) ≤ 60000
              omega
      -- what is due at first
      refine ⟨_, rfl, by show 2 ≤ sizeLine; omega, fun p5 o5 hp5 ho5 => ?_⟩
      have t5 := same_upd (o := .frz o5 (.tup [V.str (Str.ofString "unknown"), y])) hp5
      have d5 : DP K (upd G p5 (.frz o5 (.tup [V.str (Str.ofString "unknown"), y]))) (fun _ => True) (.ref p5) (.tup [.str "unknown", u]) 3 := (DPs.cons (.str (by decide +kernel) (by decide +kernel)) (.cons dG .nil)).tup hp5 trivial ho5
      generalize upd G p5 (.frz o5 (.tup [V.str (Str.ofString "unknown"), y])) = G5 at t5 d5 ⊢
      refine ⟨by show 1 ≤ sizeLine; omega, fun q5 hq5 => ⟨q5, 4, _, rfl, rfl, upd_same, by decide, by decide, by show 1 * 4 ≤ sizeLine; omega, fun L0 hL0 => ?_⟩⟩
      have t6 := same_upd (o := .lst [V.ref p5]) hq5
      have t7 := same_upd (o := .lst (List.replicate (4 : Int).toNat [V.ref p5]).flatten) hL0
      have t57 := t6.trans t7
      have tG7 := t5.trans t57
      refine ⟨_, rfl, w, rfl, ⟨_, SqL.of (wl6.same (sG.trans tG7)).hw⟩, for_list (K := K) (a := w) (xs := ps.map V.ref) (fun j σ H' => ∃ (L : Addr) (xs : List V) (v6 v7 : Option V), σ = [some (.ref a), some (.ref st), some (.ref w), some (.ref D), some y, some (.ref L), v6, v7, v8, v9, v10] ∧ Same G H' ∧ H' L = some (.lst xs) ∧
          DPs K H' (fun _ => True) xs ((List.range 4).map fun k : Nat => dueAt ts (rss.map sortR) u j (0 + (k : Int))) 3)
        ⟨L0, _, v6, v7, rfl, tG7, upd_same, ?_⟩ (fun j σ H' _ ⟨_, _, _, _, _, s', _⟩ => SqL.of (wl6.same (sG.trans s')).hw) ?_ ?_⟩
      · have e0 : ((List.range 4).map fun k : Nat => dueAt ts (rss.map sortR) u 0 (0 + (k : Int))) = [.tup [.str "unknown", u], .tup [.str "unknown", u], .tup [.str "unknown", u], .tup [.str "unknown", u]] := by
          show [dueAt ts (rss.map sortR) u 0 _, dueAt ts (rss.map sortR) u 0 _, dueAt ts (rss.map sortR) u 0 _, dueAt ts (rss.map sortR) u 0 _] = _
          rw [due_0, due_0, due_0, due_0]
        rw [e0]
        have d7 := d5.same t57
        exact .cons d7 (.cons d7 (.cons d7 (.cons d7 .nil)))
      · rintro j x σ G2 hj ⟨L, xs, v6, v7, rfl, t2, eL, dL⟩
        have jlt : j < ts.length := by
          have := (List.getElem?_eq_some_iff.mp hj).1
          rw [List.length_map, wl.lp] at this
          exact this
        obtain ⟨pj, rlj, tj, rsj, g1, g2, g3, g4, smj, vsj, h0, ha, h3, h4⟩ := (wl6.same (sG.trans t2)).at jlt
        rw [List.getElem?_map, g1] at hj
        obtain rfl := Option.some.inj hj
        obtain ⟨oj, c1, c2, c3, hsj, hodj, T1, T2, T3⟩ := ha
        have hsm : ∀ {H' : Hp}, Same G2 H' → SqT K H' smj [.str tj.nm, .ref c1, .ref c2, .ref c3] := fun s' => .inl (.inr ⟨oj, s' _ _ hsj⟩)
        have okj := okt tj (List.mem_of_getElem? g3)
        refine ⟨pj, [.ref smj, .ref rlj], rfl, SqL.of h0, rfl, _, _, rfl, _, _, rfl, rfl, ?_⟩
        have skip : firstAt ts u ≠ some j → ∀ v6' v7' : Option V, ∃ (L' : Addr) (xs' : List V) (v6 v7 : Option V), ([some (.ref a), some (.ref st), some (.ref w), some (.ref D), some y, some (.ref L), v6', v7', v8, v9, v10] : List (Option V)) = [some (.ref a), some (.ref st), some (.ref w), some (.ref D), some y, some (.ref L'), v6, v7, v8, v9, v10] ∧ Same G G2 ∧ G2 L' = some (.lst xs') ∧
            DPs K G2 (fun _ => True) xs' ((List.range 4).map fun k : Nat => dueAt ts (rss.map sortR) u (j + 1) (0 + (k : Int))) 3 := fun ne v6' v7' => by
          have e : (fun k : Nat => dueAt ts (rss.map sortR) u (j + 1) (0 + (k : Int))) = fun k : Nat => dueAt ts (rss.map sortR) u j (0 + (k : Int)) := funext fun k => due_no ne
          rw [e]
          exact ⟨L, xs, v6', v7', rfl, t2, eL, dL⟩
        obtain ⟨bu, du2, _⟩ := dG.same t2
        refine ⟨_, rfl, y, _, _, _, isStr u, rfl, .ty _, du2.ty, kit_str u, _, rfl, ?_⟩
        cases hst : isStr u with
        | false =>
          refine iteF (iteF (skip (fun e => ?_) _ _))
          obtain ⟨ti, _, rfl⟩ := first_is e
          cases hst
        | true =>
          refine iteT ?_
          obtain ⟨nx, rfl, rfl⟩ : ∃ nx, y = .str nx ∧ u = .str nx := by
            cases du2 with
            | @str _ nx _ _ => exact ⟨nx, rfl, rfl⟩
            | _ => cases hst
          refine ⟨_, rfl, smj, _, 0, .str tj.nm, rfl, rfl, hsm (Same.refl _), rfl, _, rfl, rfl, _, rfl, ?_⟩
          refine ite2 (fun e => ?_) (fun e => ?_)
          · have en : tj.nm = nx := V.str.inj (of_decide_eq_true e)
            have fi : firstAt ts (.str nx) = some j := by
              rw [← en]
              exact first_nm wn.nd g3
            have dv : ∀ way, dueAt ts (rss.map sortR) (.str nx) (j + 1) way = if way < 2 then .tup [.str "table", .tup (tj.cols.map Tr.str)] else .tup [.str "rows", .tup ((sortR rsj).map rowT)] := fun way => by
              unfold dueAt
              rw [fi]
              dsimp only
              rw [if_pos (Nat.lt_succ_self j)]
              unfold namedT
              rw [fi]
              dsimp only
              rw [g3, List.getElem?_map, g4]
              rfl
            have nn : (tj.ss ++ tj.zs).all nmS = true := by
              rw [List.all_append, okj.n2, okj.n3]
              rfl
            obtain ⟨fr, fl⟩ := fit j tj rsj g3 g4
            have q2 := okj.l2
            have q3 := okj.l3
            refine ⟨_, rfl, smj, _, 1, .ref c1, rfl, rfl, hsm (Same.refl _), rfl, _, rfl, smj, _, 2, .ref c2, rfl, rfl, hsm (Same.refl _), rfl, c1, c2, _, _, rfl, rfl, .inr T1, .inr T2, by rw [List.length_map, List.length_map]; omega, fun c Hc sc hc _ => ⟨by show 2 ≤ sizeLine; omega, fun p6 o6 hp6 ho6 => ?_⟩⟩
            rw [← List.map_append] at hc
            have dc : DP K Hc (fun _ => True) (.ref c) (.tup ((tj.ss ++ tj.zs).map Tr.str)) 2 := DP.lvl ⟨_, (hc.ts okj.ne).dt (K := K) nn, fun _ _ => trivial⟩ (by decide : 1 ≤ 2)
            have d6 : DP K (upd Hc p6 (.frz o6 (.tup [V.str (Str.ofString "table"), .ref c]))) (fun _ => True) (.ref p6) (.tup [.str "table", .tup (tj.cols.map Tr.str)]) 3 := (DPs.cons (.str (by decide +kernel) (by decide +kernel)) (.cons dc .nil)).tup hp6 trivial ho6
            have u6 := sc.trans (same_upd (o := .frz o6 (.tup [V.str (Str.ofString "table"), .ref c])) hp6)
            generalize upd Hc p6 (.frz o6 (.tup [V.str (Str.ofString "table"), .ref c])) = K6 at d6 u6 ⊢
            refine ⟨by show 1 ≤ sizeLine; omega, fun q6 hq6 => ⟨q6, 2, _, rfl, rfl, upd_same, by decide, by decide, by show 1 * 2 ≤ sizeLine; omega, fun r6 hr6 => ?_⟩⟩
            have y6 := (same_upd (o := .lst [V.ref p6]) hq6).trans (same_upd (o := .lst (List.replicate (2 : Int).toNat [V.ref p6]).flatten) hr6)
            have er6 : upd (upd K6 q6 (.lst [V.ref p6])) r6 (.lst (List.replicate (2 : Int).toNat [V.ref p6]).flatten) r6 = some (.lst [.ref p6, .ref p6]) := upd_same
            generalize upd (upd K6 q6 (.lst [V.ref p6])) r6 (.lst (List.replicate (2 : Int).toNat [V.ref p6]).flatten) = K7 at y6 er6 ⊢
            have u7 := u6.trans y6
            obtain ⟨cc, cs, ecs⟩ := shp_cons okj
            refine ⟨_, rfl, rlj, vsj, rsj, cc, cs, rfl, SqL.of (u7 _ _ h3), RowsAt.keep (Fz.of_same u7) h4, fun r m => by rw [← ecs]; exact ok_shp (fr r m).ok, fun q vs' hq rv => ⟨q, vs', rfl, SqL.of upd_same, fun q8 o8 hq8 ho8 => ⟨by show 2 ≤ sizeLine; omega, fun p9 o9 hp9 ho9 => ?_⟩⟩⟩
            have y8 := (same_upd (o := .lst vs') hq).trans (same_upd (o := .frz o8 (.tup vs')) hq8)
            have rt8 : RTup (upd (upd K7 q (.lst vs')) q8 (.frz o8 (.tup vs'))) q8 (sortR rsj) := ⟨o8, vs', upd_same, ho8, RowsAt.keep (Fz.of_same y8) rv⟩
            generalize upd (upd K7 q (.lst vs')) q8 (.frz o8 (.tup vs')) = K8 at y8 rt8 hp9 ⊢
            have d8 : DP K K8 (fun _ => True) (.ref q8) (.tup ((sortR rsj).map rowT)) 2 := rt8.dp fun r m => (fr r ((sortR_perm rsj).mem_iff.mp m)).sm
            have d9 : DP K (upd K8 p9 (.frz o9 (.tup [V.str (Str.ofString "rows"), .ref q8]))) (fun _ => True) (.ref p9) (.tup [.str "rows", .tup ((sortR rsj).map rowT)]) 3 := (DPs.cons (.str (by decide +kernel) (by decide +kernel)) (.cons d8 .nil)).tup hp9 trivial ho9
            have y9 := y8.trans (same_upd (o := .frz o9 (.tup [V.str (Str.ofString "rows"), .ref q8])) hp9)
            generalize upd K8 p9 (.frz o9 (.tup [V.str (Str.ofString "rows"), .ref q8])) = K9 at d9 y9 ⊢
            refine ⟨by show 1 ≤ sizeLine; omega, fun q9 hq9 => ⟨q9, 2, _, rfl, rfl, upd_same, by decide, by decide, by show 1 * 2 ≤ sizeLine; omega, fun r9 hr9 => ?_⟩⟩
            have ya := (same_upd (o := .lst [V.ref p9]) hq9).trans (same_upd (o := .lst (List.replicate (2 : Int).toNat [V.ref p9]).flatten) hr9)
            have er9 : upd (upd K9 q9 (.lst [V.ref p9])) r9 (.lst (List.replicate (2 : Int).toNat [V.ref p9]).flatten) r9 = some (.lst [.ref p9, .ref p9]) := upd_same
            generalize upd (upd K9 q9 (.lst [V.ref p9])) r9 (.lst (List.replicate (2 : Int).toNat [V.ref p9]).flatten) = Ka at ya er9 ⊢
            have y7a := y9.trans ya
            refine ⟨r6, r9, _, _, rfl, rfl, y7a _ _ er6, er9, by show 2 + 2 ≤ sizeLine; omega, fun L' hL' => ?_⟩
            have yb := same_upd (o := .lst ([V.ref p6, .ref p6] ++ [V.ref p9, .ref p9])) hL'
            refine ⟨L', _, _, _, rfl, (t2.trans (u7.trans y7a)).trans yb, upd_same, ?_⟩
            have e4 : ((List.range 4).map fun k : Nat => dueAt ts (rss.map sortR) (.str nx) (j + 1) (0 + (k : Int))) = [.tup [.str "table", .tup (tj.cols.map Tr.str)], .tup [.str "table", .tup (tj.cols.map Tr.str)], .tup [.str "rows", .tup ((sortR rsj).map rowT)], .tup [.str "rows", .tup ((sortR rsj).map rowT)]] := by
              show [dueAt ts (rss.map sortR) (.str nx) (j + 1) (0 + ((0 : Nat) : Int)), dueAt ts (rss.map sortR) (.str nx) (j + 1) (0 + ((1 : Nat) : Int)), dueAt ts (rss.map sortR) (.str nx) (j + 1) (0 + ((2 : Nat) : Int)), dueAt ts (rss.map sortR) (.str nx) (j + 1) (0 + ((3 : Nat) : Int))] = _
              rw [dv, dv, dv, dv, if_pos (by decide), if_pos (by decide), if_neg (by decide), if_neg (by decide)]
            rw [e4]
            have d6b := ((d6.same y6).same y7a).same yb
            have d9b := (d9.same ya).same yb
            exact .cons d6b (.cons d6b (.cons d9b (.cons d9b .nil)))
          · refine skip (fun z => ?_) _ _
            obtain ⟨ti, e1, e2⟩ := first_is z
            rw [g3] at e1
            obtain rfl := Option.some.inj e1
            exact e (decide_eq_true (by rw [Tr.str.inj e2]))
      · rintro σ G3 ⟨L, xs, v6, v7, rfl, t3, eL, dL⟩
        rw [List.length_map, wl.lp] at dL
        have ew : ((List.range 4).map fun k : Nat => dueAt ts (rss.map sortR) u ts.length (0 + (k : Int))) = (List.range 4).map fun k : Nat => namedT ts (rss.map sortR) u (0 + (k : Int)) := congrArg (fun f => (List.range 4).map f) (funext fun k => due_all)
        rw [ew] at dL
        have lxs : xs.length = 4 := dL.length
        have s63 := sG.trans t3
        refine ⟨4, rfl, by decide, by decide, fun D5 hD5 => ?_⟩
        refine lc_range (lo := 0) (n := (4 : Int).toNat) (fun i H' => Same G3 H' ∧ H' D5 = some (.lst ((((List.range 4).take i).map fun k : Nat => (namedT ts (rss.map sortR) u (0 + (k : Int))).text).map V.str))) ⟨same_upd hD5, upd_same⟩ ?_ ?_
        · rintro i H3 hi ⟨s3, e3⟩
          have hi4 : i < 4 := hi
          refine ⟨rfl, ?_⟩
          dsimp only [tYes]
          rw [if_pos rfl]
          have s6a := s63.trans s3
          obtain ⟨bu, du3, _⟩ := du.same s6a
          refine ⟨_, rfl, _, rfl, _, rfl, N, st, dx, tp, rd, wv, ts, qs, rss.map sortR, y, u, 2, bu, 0 + (i : Int), rfl, by omega, sa6.same s6a, du3, by decide, by omega, okt, fitS, hN, fun H4 s4 => ?_⟩
          refine ⟨_, s4 _ _ e3, ?_, fun c u' e => ?_, ?_⟩
          · rw [List.length_map, List.length_map, List.length_take, List.length_range]
            omega
          · rw [upd_ne (ne_of_none e hD5)]
            exact s4 _ _ (s3 c u' e)
          · have er : (List.range 4)[i]? = some i := List.getElem?_range hi4
            rw [upd_same, List.take_add_one, er]
            simp
        rintro H3 ⟨s3, e3⟩
        have eall : (List.range 4).take ((4 : Int).toNat) = List.range 4 := rfl
        rw [eall] at e3
        refine ⟨_, rfl, L, rfl, ⟨_, SqL.of (s3 _ _ eL)⟩, fun D6 hD6 => ?_⟩
        refine lc_list (K := K) (a := L) (xs := xs) (fun i H' => Same H3 H' ∧ H' D6 = some (.lst ((((List.range 4).take i).map fun k : Nat => (namedT ts (rss.map sortR) u (0 + (k : Int))).text).map V.str))) ⟨same_upd hD6, upd_same⟩ (fun i H' _ z => SqL.of (z.1 _ _ (s3 _ _ eL))) ?_ ?_
        · rintro i x H4 hi ⟨s4, e4⟩
          have hi4 : i < 4 := by
            have := (List.getElem?_eq_some_iff.mp hi).1
            omega
          refine ⟨rfl, ?_⟩
          dsimp only [tYes]
          rw [if_pos rfl]
          have er : (List.range 4)[i]? = some i := List.getElem?_range hi4
          obtain ⟨t', et, dt⟩ := (dL.same (s3.trans s4)).get hi
          rw [List.getElem?_map, er] at et
          obtain rfl := Option.some.inj et
          obtain ⟨bt, dt, _⟩ := dt
          have tl := Tr.text_le (namedT ts (rss.map sortR) u (0 + (i : Int)))
          have nwi := nw (0 + (i : Int))
          refine ⟨_, rfl, x, namedT ts (rss.map sortR) u (0 + (i : Int)), 3, bt, rfl, dt, by decide, by omega, _, e4, ?_, fun c u' e => ?_, ?_⟩
          · rw [List.length_map, List.length_map, List.length_take, List.length_range]
            omega
          · rw [upd_ne (ne_of_none e hD6)]
            exact s4 c u' e
          · rw [upd_same, List.take_add_one, er]
            simp
        · rintro H4 ⟨s4, e4⟩
          rw [lxs] at e4
          have eall4 : (List.range 4).take 4 = List.range 4 := rfl
          rw [eall4] at e4
          generalize ((List.range 4).map fun k : Nat => (namedT ts (rss.map sortR) u (0 + (k : Int))).text) = tx at e3 e4
          refine ⟨.list (tx.map PyData.str), .list (tx.map PyData.str), .lst (SqL.of (s4 _ _ e3)) (dpStrs K _ tx), .lst (SqL.of e4) (dpStrs K _ tx), plain_strs tx, plain_strs tx, ?_, _, rfl, ?_⟩
          · simp only [PyData.depth, depthStrs]
            decide
          · have e : PyData.eqv (.list (tx.map PyData.str)) (.list (tx.map PyData.str)) = true := by
              have h := eqvStrs tx tx
              rw [decide_eq_true rfl] at h
              exact h
            show if (!PyData.eqv (.list (tx.map PyData.str)) (.list (tx.map PyData.str))) = true then _ else _
            rw [e]
            exact iteF ⟨_, _, _, _, _, _, _, rfl, (s63.trans s3).trans s4⟩
    · rintro σ H' ⟨_, _, _, _, _, _, _, rfl, s'⟩
      exact k H' ms2 _ (k06.trans (.of_same s')) (hs6.but s') (by omega) (by omega)
end
end Vm
/-! the law's rows go with the store's -/
namespace Vm
open PySem L2
theorem follow_perm {kd : Str} {us rs : List Row} (hl : lenV kd = .int ((us.length + 2 : Nat) : Int)) (nd : rs.Nodup) : (followR kd us rs).Perm (leftR kd us (sortR rs) ++ putR kd us) := by
  have ef : ∀ r : Row, (fun o : Row => !decide (o ∈ [r])) = fun o => o != r := fun r => funext fun o => by
    rw [Bool.eq_iff_iff]
    simp
  rcases lenV_cases hl with ⟨e, ln⟩ | ⟨e, ln⟩ | ⟨e, ln⟩ <;> subst e
  · obtain ⟨r, rfl⟩ : ∃ r, us = [r] := List.length_eq_one_iff.mp ln
    have e1 : followR delS [r] rs = rs.erase r := by
      unfold followR
      rw [if_neg del_ins, if_pos rfl]
      rfl
    have e2 : leftR delS [r] (sortR rs) = (sortR rs).filter fun o => o != r := by
      unfold leftR takenR
      rw [if_neg del_ins]
      exact congrArg (fun f => (sortR rs).filter f) (ef r)
    have e3 : putR delS [r] = [] := by
      unfold putR
      rw [if_neg del_ins]
      rfl
    rw [e1, e2, e3, List.append_nil, nd.erase_eq_filter]
    exact ((sortR_perm rs).filter _).symm
  · obtain ⟨r, rfl⟩ : ∃ r, us = [r] := List.length_eq_one_iff.mp ln
    have e1 : followR insS [r] rs = rs ++ [r] := by
      unfold followR
      rw [if_pos rfl]
    have e2 : leftR insS [r] (sortR rs) = sortR rs := by
      unfold leftR takenR
      rw [if_pos rfl]
      simp
    have e3 : putR insS [r] = [r] := by
      unfold putR
      rw [if_pos rfl]
    rw [e1, e2, e3]
    exact (sortR_perm rs).symm.append_right _
  · obtain ⟨r, o, rfl⟩ := two_of ln
    have e1 : followR repS [r, o] rs = rs.erase r ++ [o] := by
      unfold followR
      rw [if_neg rep_ins, if_neg rep_del]
      rfl
    have e2 : leftR repS [r, o] (sortR rs) = (sortR rs).filter fun q => q != r := by
      unfold leftR takenR
      rw [if_neg rep_ins]
      exact congrArg (fun f => (sortR rs).filter f) (ef r)
    have e3 : putR repS [r, o] = [o] := by
      unfold putR
      rw [if_neg rep_ins]
      rfl
    rw [e1, e2, e3, nd.erase_eq_filter]
    exact ((sortR_perm rs).filter _).symm.append_right _
theorem follow_after {kd : Str} {us rs : List Row} (hl : lenV kd = .int ((us.length + 2 : Nat) : Int)) (nd : rs.Nodup) : sortR (followR kd us rs) = afterR kd us (sortR rs) := sortR_eq (follow_perm hl nd)
theorem nd_snoc {α : Type} {xs : List α} {x : α} (h : xs.Nodup) (n : x ∉ xs) : (xs ++ [x]).Nodup := by
  rw [List.nodup_append]
  exact ⟨h, by simp, fun a ha b hb e => n (by rw [List.mem_singleton.mp hb] at e; rw [← e]; exact ha)⟩
theorem follow_nd {ti : Ti} {kd : Str} {us rs : List Row} (hl : lenV kd = .int ((us.length + 2 : Nat) : Int)) (nd : rs.Nodup) (po : possR ti kd us rs = true) : (followR kd us rs).Nodup := by
  rcases lenV_cases hl with ⟨e, ln⟩ | ⟨e, ln⟩ | ⟨e, ln⟩ <;> subst e
  · unfold followR
    rw [if_neg del_ins, if_pos rfl]
    exact nd.erase _
  · obtain ⟨r, rfl⟩ : ∃ r, us = [r] := List.length_eq_one_iff.mp ln
    rw [poss_ins, Bool.and_eq_true] at po
    unfold followR
    rw [if_pos rfl]
    refine nd_snoc nd fun m => ?_
    rw [decide_eq_true m] at po
    exact nomatch po.1
  · obtain ⟨r, o, rfl⟩ := two_of ln
    rw [poss_rep, Bool.and_eq_true, Bool.and_eq_true] at po
    unfold followR
    rw [if_neg rep_ins, if_neg rep_del]
    refine nd_snoc (nd.erase _) fun m => ?_
    have := po.1.2
    rw [decide_eq_true (List.mem_of_mem_erase m)] at this
    exact nomatch this
theorem follow_mem {kd : Str} {us rs : List Row} {r : Row} (hl : lenV kd = .int ((us.length + 2 : Nat) : Int)) (m : r ∈ followR kd us rs) : r ∈ us ∨ r ∈ rs := by
  unfold followR at m
  split at m
  · exact (List.mem_append.mp m).symm
  · split at m
    · exact .inr (List.mem_of_mem_erase m)
    · rcases List.mem_append.mp m with m | m
      · exact .inr (List.mem_of_mem_erase m)
      · exact .inl (List.mem_of_mem_drop m)
theorem follow_len {kd : Str} {us rs : List Row} (hl : lenV kd = .int ((us.length + 2 : Nat) : Int)) : (followR kd us rs).length ≤ rs.length + 1 := by
  have l1 : ∀ r : Row, (rs.erase r).length ≤ rs.length := fun r => List.length_erase_le
  rcases lenV_cases hl with ⟨e, ln⟩ | ⟨e, ln⟩ | ⟨e, ln⟩ <;> subst e <;> unfold followR
  · rw [if_neg del_ins, if_pos rfl]
    have := l1 (us.getD 0 [])
    omega
  · rw [if_pos rfl, List.length_append]
    omega
  · rw [if_neg rep_ins, if_neg rep_del, List.length_append, List.length_drop]
    have := l1 (us.getD 0 [])
    omega
/-- all of the law's rows differ -/
def Nds (rss : List (List Row)) : Prop := ∀ rs ∈ rss, rs.Nodup
/-- one change, in the law and in the store -/
theorem both_step {N : Nat} {ts : List Ti} {rss : List (List Row)} {kd : Str} {i : Nat} {ti : Ti} {us rs : List Row} (fit : RkFit N ts rss) (nds : Nds rss) (nd : (ts.map Ti.nm).Nodup) (et : ts[i]? = some ti) (er : rss[i]? = some rs) (rk : ∀ r ∈ us, Rk ti r)
    (hl : lenV kd = .int ((us.length + 2 : Nat) : Int)) (po : posT ts rss (.tup (deedL kd ti.nm us)) = possR ti kd us rs) :
    stepsT ts (rss.map sortR) [.tup (deedL kd ti.nm us)] = (if possR ti kd us rs = true then rss.set i (followR kd us rs) else rss).map sortR ∧ RkFit (N + 1) ts (if possR ti kd us rs = true then rss.set i (followR kd us rs) else rss) ∧ Nds (if possR ti kd us rs = true then rss.set i (followR kd us rs) else rss) := by
  have fi := first_nm nd et
  have ps := pos_sort ts rss (.tup (deedL kd ti.nm us))
  rw [po] at ps
  cases e : possR ti kd us rs with
  | false =>
    rw [e] at ps
    rw [if_neg Bool.false_ne_true]
    refine ⟨step_no ps, fun j tj rj e1 e2 => ?_, nds⟩
    obtain ⟨a, b⟩ := fit j tj rj e1 e2
    exact ⟨a, Nat.le_succ_of_le b⟩
  | true =>
    rw [e] at ps
    rw [if_pos rfl]
    refine ⟨?_, fun j tj rj e1 e2 => ?_, fun r m => ?_⟩
    · have er2 : (rss.map sortR)[i]? = some (sortR rs) := by
        rw [List.getElem?_map, er]
        rfl
      show stepT ts (rss.map sortR) (.tup (deedL kd ti.nm us)) = _
      have st : stepT ts (rss.map sortR) (.tup (deedL kd ti.nm us)) = (rss.map sortR).set i (afterR kd us (sortR rs)) := step_is (us := us) rfl fi er2 ps
      rw [st, List.map_set, follow_after hl (nds rs (List.mem_of_getElem? er))]
    · rw [List.getElem?_set] at e2
      split at e2
      · rename_i q
        subst q
        split at e2
        · obtain rfl := Option.some.inj e2
          rw [et] at e1
          obtain rfl := Option.some.inj e1
          obtain ⟨a, b⟩ := fit i ti rs et er
          refine ⟨fun r m => ?_, Nat.le_trans (follow_len hl) (by omega)⟩
          rcases follow_mem hl m with m | m
          · exact rk r m
          · exact a r m
        · cases e2
      · obtain ⟨a, b⟩ := fit j tj rj e1 e2
        exact ⟨a, Nat.le_succ_of_le b⟩
    · rcases List.mem_or_eq_of_mem_set m with m | m
      · exact nds r m
      · rw [m]
        exact follow_nd hl (nds rs (List.mem_of_getElem? er)) e
/-- a change of the tables, that the law made -/
theorem deed_chg {ts : List Ti} {rss : List (List Row)} {kd : Str} {i : Nat} {ti : Ti} {us rs : List Row} (nd : (ts.map Ti.nm).Nodup) (et : ts[i]? = some ti) (er : rss[i]? = some rs) (rk : ∀ r ∈ us, Row.ok ti r) (hl : lenV kd = .int ((us.length + 2 : Nat) : Int)) :
    isChg ts (.tup (deedL kd ti.nm us)) = true ∧ posT ts rss (.tup (deedL kd ti.nm us)) = possR ti kd us rs := by
  have fi := first_nm nd et
  have ln := (kd_text hl).2.2
  constructor
  · obtain ⟨r, us', rfl⟩ : ∃ r us', us = r :: us' := by
      cases us with
      | nil => rcases ln with e | e <;> exact nomatch e
      | cons r us' => exact ⟨r, us', rfl⟩
    show (decide (lenV kd = .int ((((rowT r :: us'.map rowT).length + 2 : Nat)) : Int)) && rowsOk ts (.str ti.nm) (rowT r :: us'.map rowT)) = true
    have e1 : (rowT r :: us'.map rowT).length = (r :: us').length := by
      simp
    rw [e1, decide_eq_true hl, Bool.true_and]
    unfold rowsOk
    rw [fi]
    dsimp only
    rw [et]
    show ((r :: us').map rowT).all (isRow ti.ss.length ti.zs.length) = true
    rw [List.all_map, List.all_eq_true]
    exact fun q m => row_isRow (rk q m)
  · show posL ts rss (.str kd :: .str ti.nm :: us.map rowT) = _
    unfold posL
    dsimp only
    rw [fi]
    dsimp only
    rw [et, er]
    dsimp only
    have e : (us.map rowT).map toRow = us := by
      rw [List.map_map]
      have : (toRow ∘ rowT) = id := funext fun r => toRow_rowT r
      rw [this, List.map_id]
    rw [e]
end Vm
/-! the law -/
namespace Vm
open PySem L2
abbrev sLaw : Stmt := top 66
def spLaw (K : PySem.W.Frag) : Sp := fun vs H Q _ => ∃ (a : Addr) (ns : List Int), vs = [.ref a] ∧ SqL K H a (ns.map V.int) ∧ ns.length ≤ 63 ∧ ∀ H', Q (.bl true) H'
theorem _root_.L2.PS.wk {X : Cx} {st : Stmt} {t t' : TS} (h : PS X st t') (m : ∀ D σ H, t D σ H → t' D σ H) : PS X st t := ⟨fun pins s σ H D I hq => h.run pins s σ H D I (m _ _ _ hq)⟩
def lits : List Tr := [.non, .tup [], .lst [], .dct [] [], .str "insert", .tup [.str "insert", .str "t"], .int 0, .bl true, .tup [.tup [], .tup [], .tup []], .tup [.tup [.str "insert"], .str "t", .tup []]]
theorem lits_w : ∀ t ∈ lits, t.w ≤ 100 := by
  intro t h
  unfold lits at h
  simp only [List.mem_cons, List.not_mem_nil, or_false] at h
  rcases h with e | e | e | e | e | e | e | e | e | e <;> subst e <;> decide +kernel
/-- the changed change -/
def tV2 : TS := fun D σ H => ∃ (i : Int) (p : Addr) (kd nm : Str) (us : List Row), σ[5]? = some (some (.int i)) ∧ σ[6]? = some (some (.ref p)) ∧ DeedAt H p kd nm us ∧ (us.length = 1 ∨ us.length = 2) ∧ D.nx σ H ∧
  ∀ H' p' r, Same H H' → DeedAt H' p' repS nm [r, r] → r ∈ us → D.nx (σ.set 6 (some (.ref p'))) H'
theorem tV2_of {D : Ends} {σ : L2.St} {H : Hp} {i : Int} {p : Addr} {kd nm : Str} {us : List Row} (e5 : σ[5]? = some (some (.int i))) (e6 : σ[6]? = some (some (.ref p))) (eσ : σ.set 6 (some (.ref p)) = σ) (d : DeedAt H p kd nm us) (hl : lenV kd = .int ((us.length + 2 : Nat) : Int))
    (tail : ∀ (H' : Hp) (p' : Addr) (kd' : Str) (us' : List Row), Same H H' → DeedAt H' p' kd' nm us' → (∀ r ∈ us', r ∈ us) → lenV kd' = .int ((us'.length + 2 : Nat) : Int) → D.nx (σ.set 6 (some (.ref p'))) H') : tV2 D σ H :=
  ⟨i, p, kd, nm, us, e5, e6, d, (kd_text hl).2.2, by
    have := tail H p kd us (Same.refl H) d (fun _ m => m) hl
    rw [eσ] at this
    exact this, fun H' p' r s' d' m => tail H' p' repS [r, r] s' d' (fun x hx => by
    have e : x = r := by
      rcases List.mem_cons.mp hx with e | hx
      · exact e
      · exact List.mem_singleton.mp hx
    rw [e]
    exact m) lenV_rep⟩
abbrev tupD (rs : List Row) : PyData := .tuple (rs.map rowD)
theorem rtups_dp {K : PySem.W.Frag} {H : Hp} : ∀ {qs : List Addr} {rr : List (List Row)}, RTups H qs rr → DpAll K H (qs.map V.ref) (rr.map tupD)
  | _, _, .nil => .nil
  | _, _, .cons h t => by
    obtain ⟨o, vs, e, d, r⟩ := h
    exact .cons (.tup (.inl (.inr ⟨o, e⟩)) (rows_dp r)) (rtups_dp t)
theorem tups_plain : ∀ rr : List (List Row), PyData.plainAll (rr.map tupD) = true
  | [] => rfl
  | rs :: r => by
    show (PyData.plainAll (rs.map rowD) && PyData.plainAll (r.map tupD)) = true
    rw [rows_plain, tups_plain r]
    rfl
theorem tups_eqv : ∀ rr : List (List Row), PyData.eqvAll (rr.map tupD) (rr.map tupD) = true
  | [] => rfl
  | rs :: r => by
    show (PyData.eqvAll (rs.map rowD) (rs.map rowD) && PyData.eqvAll (r.map tupD) (r.map tupD)) = true
    rw [rows_eqv, tups_eqv r, decide_eq_true rfl]
    rfl
theorem tups_depth : ∀ rr : List (List Row), PyData.depthAll (rr.map tupD) ≤ 3
  | [] => Nat.zero_le _
  | rs :: r => by
    have h := tups_depth r
    have h2 := rows_depth rs
    show Nat.max (PyData.tuple (rs.map rowD)).depth (PyData.depthAll (r.map tupD)) ≤ 3
    refine Nat.max_le.mpr ⟨?_, h⟩
    simp only [PyData.depth]
    omega
section
variable {P : Program} {w : World} {K : PySem.W.Frag} {mg : Str → Option Value} {base : Heap} {C CT CU CIC fNm fNms fD fP fTO fRO fIC fIP fDo fS fW fSt fCh fFo fTo fCR fBe fNR : Addr}
theorem scLaw : FnScope ["_law_script", "_law_source_here", "_law_turn", "_law_world_here", "_law_store_here", "_law_k", "_law_deed", "_law_told_here", "_law_it", "_law_some", "_law_rows"] ["_law_script"] (defScope sLaw) := ⟨rfl, rfl, rfl, by decide +kernel, rfl, by decide +kernel, by decide +kernel⟩
theorem ok_law {f : Addr} {fd fdD fdR fdS fdW fdSt fdCh fdFo fdTo fdCR fdBe fdNR : FuncData} (F : Fun K "law" "law" sLaw f fd) (T : TxtL K mg fD fP) (rp : mg "repr" = none) (S : TxtS K mg C fTO fRO fIC fIP) (mDo : Meth K C "do" fDo)
    (GD : FnOk P w K mg base CX0 1 fD fdD ["_law_source_here", "_law_many"] spDraw) (bD : Binds K fdD ["_law_source_here", "_law_many"] [])
    (GRO : FnOk P w K mg base (L2.CX P w) 4 fRO fdR ["self", "name"] (spRowsOf K C CT CU)) (bRO : Binds K fdR ["self", "name"] [])
    (GDo : FnR P w K mg base (L2.CX P w) 7 fDo (fun vs H Q E => ∃ ws rest, vs = ws ++ rest ∧ ws.length = (["self"] : List Str).length ∧ rest.length ≤ sizeLine ∧ ∀ p, H p = Option.none → spDo K C CT CIC (ws ++ [V.ref p]) (upd H p (.tup rest)) Q E))
    (cS : Calls K mg "_law_source" fS) (GS : FnOk P w K mg base CX0 1 fS fdS ["_law_script"] (spSource K)) (bS : Binds K fdS ["_law_script"] [])
    (cW : Calls K mg "_law_world" fW) (GW : FnOk P w K mg base CX0 5 fW fdW ["_law_source_here"] spWorld) (bW : Binds K fdW ["_law_source_here"] [])
    (cSt : Calls K mg "_law_store" fSt) (GSt : FnOk P w K mg base CX0 7 fSt fdSt ["_law_world_here"] (spStoreL K C CT)) (bSt : Binds K fdSt ["_law_world_here"] [])
    (cCh : Calls K mg "_law_change" fCh) (GCh : FnOk P w K mg base CX0 5 fCh fdCh ["_law_source_here", "_law_world_here"] spChangeL) (bCh : Binds K fdCh ["_law_source_here", "_law_world_here"] [])
    (cFo : Calls K mg "_law_follow" fFo) (GFo : FnOk P w K mg base CX0 4 fFo fdFo ["_law_world_here", "_law_deed"] (spFollow K)) (bFo : Binds K fdFo ["_law_world_here", "_law_deed"] [])
    (cTo : Calls K mg "_law_told" fTo) (GTo : FnOk P w K mg base CX0 1 fTo fdTo ["_law_world_here"] (spTold K)) (bTo : Binds K fdTo ["_law_world_here"] [])
    (cCR : Calls K mg "_law_change_right" fCR) (GCR : FnG P w K mg base CX0 8 fCR fdCR ["_law_store_here", "_law_world_here", "_law_it"] (spChgRight K C CT)) (bCR : Binds K fdCR ["_law_store_here", "_law_world_here", "_law_it"] [])
    (cBe : Calls K mg "_law_bent" fBe) (GBe : FnOk P w K mg base CX0 4 fBe fdBe ["_law_source_here", "_law_deed"] (spBent K)) (bBe : Binds K fdBe ["_law_source_here", "_law_deed"] [])
    (cNR : Calls K mg "_law_names_right" fNR) (GNR : FnG P w K mg base CX0 6 fNR fdNR ["_law_source_here", "_law_store_here", "_law_world_here"] (spNamesRight K C CT)) (bNR : Binds K fdNR ["_law_source_here", "_law_store_here", "_law_world_here"] []) :
    FnG P w K mg base CX0 9 f fd ["_law_script"] (spLaw K) := by
  refine okG0 F scLaw (fun vs H Q E h => ?_) (fun cdv A outer s H vs Q E ag hr h => ?_)
  · obtain ⟨a, ns, rfl, _⟩ := h
    rfl
  · obtain ⟨sc, ns, rfl, hS, hlen, k⟩ := h
    have hr1 : Room 1 _ := hr.mono (by decide)
    have hr4 : Room 4 _ := hr.mono (by decide)
    have hr5 : Room 5 _ := hr.mono (by decide)
    have hr6 : Room 6 _ := hr.mono (by decide)
    have hr7 : Room 7 _ := hr.mono (by decide)
    have hu : (A.deeper (PyProof.Rows.envOfC "law" (defScope sLaw) s.heap.objs.size f cdv)).units + 16 < cLine := by
      have := hr.units
      omega
    have hu8 : (A.deeper (PyProof.Rows.envOfC "law" (defScope sLaw) s.heap.objs.size f cdv)).units + 8 < cLine := by
      omega
    have big : sizeLine > 100000 := by decide
    refine ⟨_, pss_cons (ps_set (i := 1) scLaw.nd rfl (Or.inl rfl) (pe_call GS hr1 rfl cS.g cS.k bS .nil pass0 (pa_cons (pv 0) pa_nil)))
      (pss_cons (ps_for PassesOwn.never rfl (pi_range1 rfl T.range (pa_cons pe_int pa_nil)) (pg_name (i := 2) scLaw.nd rfl (Or.inl rfl))
        (pss_cons (ps_set (i := 3) scLaw.nd rfl (Or.inl rfl) (pe_call GW hr5 rfl cW.g cW.k bW .nil pass0 (pa_cons (pv 1) pa_nil)))
        (pss_cons (ps_set (i := 4) scLaw.nd rfl (Or.inr rfl) (pe_call GSt hr7 rfl cSt.g cSt.k bSt .nil pass0 (pa_cons (pv 3) pa_nil)))
        (pss_cons (ps_for PassesOwn.never rfl (pi_range1 rfl T.range (pa_cons (pe_call GD hr1 rfl T.gD T.kD bD .nil pass0 (pa_cons (pv 1) (pa_cons pe_int pa_nil))) pa_nil)) (pg_name (i := 5) scLaw.nd rfl (Or.inl rfl))
          (pss_cons (ps_set (i := 6) scLaw.nd rfl (Or.inl rfl) (pe_call GCh hr5 rfl cCh.g cCh.k bCh .nil pass0 (pa_cons (pv 1) (pa_cons (pv 3) pa_nil))))
          (pss_one (ps_if (pt_cmpR op_ne (pe_callB (call_reprT ag hu) (by rfl) rp (by decide +kernel) (pa_cons (Vm.pe_methR (E := fun _ _ _ => False) (pv 4) S.cl mDo GDo hr7 passF (pa_cons (pv 6) pa_nil)) pa_nil))
              (pe_callB (call_reprT ag hu) (by rfl) rp (by decide +kernel) (pa_cons (pe_tupF (pa_cons (pe_call GFo hr4 rfl cFo.g cFo.k bFo .nil pass0 (pa_cons (pv 3) (pa_cons (pv 6) pa_nil))) pa_nil)) pa_nil)) (nomark _))
            (pss_one (ps_ret pe_bl)) pss_nil))))
        (pss_cons (ps_set (i := 7) scLaw.nd rfl (Or.inl rfl) (pe_call GTo hr1 rfl cTo.g cTo.k bTo .nil pass0 (pa_cons (pv 3) pa_nil)))
        (pss_cons (ps_for PassesOwn.never rfl (pi_range1 rfl T.range (pa_cons pe_int pa_nil)) (pg_name (i := 5) scLaw.nd rfl (Or.inl rfl))
          (pss_cons (ps_set (i := 6) scLaw.nd rfl (Or.inl rfl) (pe_call GCh hr5 rfl cCh.g cCh.k bCh .nil pass0 (pa_cons (pv 1) (pa_cons (pv 3) pa_nil))))
          (pss_cons (PS.wk (t := tV2) (ps_if (pt_cmpR op_eq (pe_op op_mod (pv 5) pe_int) pe_int (nomark _))
              (pss_one (ps_set (i := 6) scLaw.nd rfl (Or.inl rfl) (pe_op op_catF (pe_op op_catT2 (pe_tupF (pa_cons pe_str pa_nil)) (pe_slice sl_T (pv 6) (po_some pe_int) (po_some pe_int)))
                (pe_op op_repT (pe_slice sl_T (pv 6) (po_some (pe_un un_neg pe_int)) po_none) pe_int)))) pss_nil) (fun D σ H h => ?_))
          (pss_cons (ps_if (pt_not (pt_val (pe_callG GCR ag hr rfl cCR.g cCR.k bCR (pa_cons (pv 4) (pa_cons (pv 3) (pa_cons (pv 6) pa_nil)))))) (pss_one (ps_ret pe_bl)) pss_nil)
          (pss_one (ps_if (pt_not (pt_val (pe_callG GCR ag hr rfl cCR.g cCR.k bCR (pa_cons (pv 4) (pa_cons (pv 3) (pa_cons (pe_call GBe hr4 rfl cBe.g cBe.k bBe .nil pass0 (pa_cons (pv 1) (pa_cons (pv 6) pa_nil))) pa_nil)))))) (pss_one (ps_ret pe_bl)) pss_nil))))))
        (pss_cons (ps_for PassesOwn.never rfl (pi_tup (pe_tupF (pd_cons (n := 2) (ts := lits.drop 1) pd_n (pd_cons (pd_tup pd_nil (by decide)) (pd_cons (pd_lst pd_nil (by decide)) (pd_cons pd_dict (pd_cons (pd_s (by decide +kernel) (by decide +kernel))
              (pd_cons (pd_tup (n := 1) (pd_cons (pd_s (by decide +kernel) (by decide +kernel)) (pd_cons (pd_s (by decide +kernel) (by decide +kernel)) pd_nil)) (by decide)) (pd_cons (pd_i (by decide)) (pd_cons pd_b
              (pd_cons (pd_tup (n := 1) (pd_cons (pd_tup (n := 0) pd_nil (by decide)) (pd_cons (pd_tup (n := 0) pd_nil (by decide)) (pd_cons (pd_tup (n := 0) pd_nil (by decide)) pd_nil))) (by decide))
              (pd_cons (pd_tup (n := 1) (pd_cons (pd_tup (n := 0) (pd_cons (pd_s (by decide +kernel) (by decide +kernel)) pd_nil) (by decide)) (pd_cons (pd_s (by decide +kernel) (by decide +kernel)) (pd_cons (pd_tup (n := 0) pd_nil (by decide)) pd_nil))) (by decide)) pd_nil)))))))))))) (pg_name (i := 8) scLaw.nd rfl (Or.inl rfl))
          (pss_one (ps_if (pt_not (pt_val (pe_callG GCR ag hr rfl cCR.g cCR.k bCR (pa_cons (pv 4) (pa_cons (pv 3) (pa_cons (pv 8) pa_nil)))))) (pss_one (ps_ret pe_bl)) pss_nil)))
        (pss_cons (ps_if (pt_not (pt_val (pe_callG GNR ag hr6 rfl cNR.g cNR.k bNR (pa_cons (pv 1) (pa_cons (pv 4) (pa_cons (pv 3) pa_nil)))))) (pss_one (ps_ret pe_bl)) pss_nil)
        (pss_one (ps_if (pt_cmpR (op_neP hu8) (pe_lc (own := [("_law_some", 9), ("_law_rows", 10)]) (g := gLst K 2 (gCons (gName 9) (gCons (gName 10) gNil))) (tt := tYes) (te := tMeth C "rows_of" (spRowsOf K C CT CU) [] (fun _ _ _ => False) (tVar 4) (tCons (tOp (rIxT K) (tVar 9) (tC (.int 0))) tNil)) rfl scLaw.nd (pi_list (pv 3))
              (blkOk_by (N := ["_law_script", "_law_source_here", "_law_turn", "_law_world_here", "_law_store_here", "_law_k", "_law_deed", "_law_told_here", "_law_it", "_law_some", "_law_rows"]) (sc := defScope sLaw) (by decide +kernel))
              (fun _ _ _ _ _ => by exact (pg_lst rfl (by exact (pgs_cons (pg_name (i := 9) scLaw.nd rfl (Or.inl rfl)) (by exact (pgs_cons (pg_name (i := 10) scLaw.nd rfl (Or.inl rfl)) pgs_nil)))))) (fun _ _ _ _ _ => pts_nil)
              (fun _ _ _ _ _ => by exact (pe_meth (E := fun _ _ _ => False) (pv 4) S.cl S.mRO GRO hr4 bRO .nil passF (pa_cons (pe_ix ix_tup (pv 9) pe_int (fun _ _ => rfl)) pa_nil)))) (pv 7) (nomark _))
          (pss_one (ps_ret pe_bl)) pss_nil))))))))))
      (pss_one (ps_ret pe_bl))), ?_⟩
    · obtain ⟨i, p, kd, nm, us, e5, e6, ⟨o, xs, hp, ho, hxs⟩, ln, nx, k⟩ := h
      have key : ∃ x r, cutV (V.str kd :: .str nm :: xs) (some 1) (some 2) = [.str nm] ∧ cutV (V.str kd :: .str nm :: xs) (some (-1)) none = [x] ∧ RwAt H x r ∧ r ∈ us := by
        cases hxs with
        | nil =>
          have : ([] : List Row).length = 0 := rfl
          omega
        | cons h t =>
          cases t with
          | nil => exact ⟨_, _, rfl, rfl, h, List.mem_cons_self⟩
          | cons h2 t2 =>
            cases t2 with
            | nil => exact ⟨_, _, rfl, rfl, h2, List.mem_cons_of_mem _ List.mem_cons_self⟩
            | cons h3 t3 =>
              simp only [List.length_cons] at ln
              omega
      obtain ⟨x, r, k1, k2, hx, mem⟩ := key
      refine ⟨_, e5, _, _, rfl, rfl, (by show (0 : Int) < 10; decide), rfl, _, rfl, ite2 (fun e => ?_) (fun e => nx)⟩
      refine ⟨by show 1 ≤ sizeLine; omega, fun p1 o1 hp1 ho1 => ?_⟩
      have s1 := same_upd (o := .frz o1 (.tup [V.str (Str.ofString "replace")])) hp1
      have t1 : TupV (upd H p1 (.frz o1 (.tup [V.str (Str.ofString "replace")]))) p1 [V.str repS] := ⟨o1, upd_same, ho1⟩
      generalize upd H p1 (.frz o1 (.tup [V.str (Str.ofString "replace")])) = H1 at s1 t1 ⊢
      have tp : TupV H p (V.str kd :: .str nm :: xs) := ⟨o, hp, ho⟩
      refine ⟨_, e6, 1, rfl, 2, rfl, p, _, rfl, tp.fz (Fz.of_same s1), fun q H2 s2 t2 => ?_⟩
      rw [k1] at t2
      refine ⟨p1, q, _, _, rfl, rfl, t1.fz (Fz.of_same s2), t2, by show 1 + 1 ≤ sizeLine; omega, fun q2 H3 s3 t3 => ?_⟩
      have s13 := (s1.trans s2).trans s3
      refine ⟨_, e6, _, rfl, -1, rfl, p, _, rfl, tp.fz (Fz.of_same s13), fun q4 H4 s4 t4 => ?_⟩
      rw [k2] at t4
      refine ⟨q4, 2, _, rfl, rfl, t4.sq, (fun z => nomatch z), by decide, by decide, by show 1 ≤ 1000; decide, fun p5 hp5 => ?_⟩
      have s5 := same_upd (o := .tup (List.replicate (2 : Int).toNat [x]).flatten) hp5
      refine ⟨q2, p5, _, _, rfl, rfl, (t3.fz (Fz.of_same (s4.trans s5))).sq, SqT.of upd_same, by show 2 + 2 ≤ sizeLine; omega, (fun z => nomatch z), (fun _ z => nomatch z), fun _ _ p6 o6 hp6 ho6 => ?_⟩
      have s6 := ((s13.trans s4).trans s5).trans (same_upd (o := .frz o6 (.tup (([V.str repS] ++ [V.str nm]) ++ (List.replicate (2 : Int).toNat [x]).flatten))) hp6)
      have hx6 := hx.keep (Fz.of_same s6)
      exact k _ p6 r s6 ⟨o6, [x, x], upd_same, ho6, .cons hx6 (.cons hx6 .nil)⟩ mem
    have okd : ∀ {H' : Hp} {ms' : List Int} {b' : Int} {a l p : Addr} {z : Int} {kd : Str} {ti : Ti} {us : List Row}, Src H' a l ms' z b' → DeedAt H' p kd ti.nm us → ti.ok → (∀ r ∈ us, Rk ti r) → lenV kd = .int ((us.length + 2 : Nat) : Int) → ∃ bs, Dt K H' (.ref p) (.tup (deedL kd ti.nm us)) 2 bs := fun {H' ms' b' a l p z kd ti us} hs d g rk hl => by
      obtain ⟨bs, d', _⟩ := DeedAt.dp (K := K) hs d g.n1 (fun r m => (rk r m).sm) hl
      exact ⟨bs, d'⟩
    refine ⟨_, rfl, sc, ns, rfl, hS, hlen, fun H1 a l ms z s1 na nl hs1 => ?_⟩
    refine ⟨4, rfl, by decide, by decide, for_range (lo := 0) (n := 4) (fun i σ H' => ∃ (ms' : List Int) (b' : Int) (v2 v3 v4 v5 v6 v7 v8 v9 v10 : Option V), σ = [some (.ref sc), some (.ref a), v2, v3, v4, v5, v6, v7, v8, v9, v10] ∧ Src H' a l ms' z b' ∧ 0 ≤ b' ∧ b' ≤ 4000 * (i : Int)) ⟨ms, 0, none, none, none, none, none, none, none, none, none, rfl, hs1, by omega, by omega⟩ ?_ ?_⟩
    · rintro i σ H2 hi ⟨ms2, b2, v2, v3, v4, v5, v6, v7, v8, v9, v10, rfl, hs2, d1, d2⟩
      refine ⟨_, rfl, a, l, ms2, z, b2, rfl, hs2, by omega, by omega, fun H3 ms3 b3 w ps rls ts k3 hs3 c1 c2 wl3 off wn => ?_⟩
      have okt : ∀ t ∈ ts, t.ok := fun t m => (wn.ok t m).g
      have few3 := wn.few
      refine ⟨_, rfl, w, ps, rls, ts, ts.map fun _ => [], rfl, wl3, wn, fun H4 st dx tp rd wv qs s4 nst nrd sa4 => ?_⟩
      have hs4 := hs3.but s4
      have wl4 := wl3.same s4
      have e0 : (ts.map fun _ => ([] : List Row)).map sortR = ts.map fun _ => [] := by
        rw [List.map_map]
        refine List.map_congr_left fun _ _ => ?_
        show sortR [] = []
        simp [sortR]
      rw [← e0] at sa4
      have off' : ∀ c ∈ w :: (ps ++ rls), Off a l c := fun c m => (off c m).1
      refine ⟨_, rfl, a, l, ms3, z, b3, 16, rfl, hs4, by decide, by decide, by omega, by omega, fun H5 ms5 r k5 hs5 r0 r1 => ⟨r, rfl, by omega, by omega, for_range (lo := 0) (n := r.toNat) (fun j σ H' => ∃ (ms' : List Int) (b' : Int) (qs' : List Addr) (rss : List (List Row)) (v2 v5 v6 : Option V), σ = [some (.ref sc), some (.ref a), v2, some (.ref w), some (.ref st), v5, v6, v7, v8, v9, v10] ∧ Src H' a l ms' z b' ∧ 0 ≤ b' ∧ b' ≤ 4000 * (i : Int) + 101 + 30 * (j : Int) ∧
          StAt K H' C CT st dx tp rd wv ts qs' (rss.map sortR) ∧ Wl H' w ps rls ts rss ∧ RkFit j ts rss ∧ Nds rss) ?_ ?_ ?_⟩⟩
      · refine ⟨ms5, b3 + 1, qs, ts.map fun _ => [], _, _, _, rfl, hs5, by omega, by omega, sa4.nl (k5.nl hs4), wl4.keep (fun c m o e => k5 _ _ (off' c m).1 (off' c m).2 e) (k5.fz hs4), fun i ti rs e1 e2 => ?_, fun rs m => ?_⟩
        · rw [List.getElem?_map, e1] at e2
          obtain rfl := Option.some.inj e2
          exact ⟨(fun _ m => nomatch m), Nat.le_refl _⟩
        · obtain ⟨_, _, rfl⟩ := List.mem_map.mp m
          exact List.nodup_nil
      · rintro j σ H6 hj ⟨ms6, b6, qs6, rss, v2', v5', v6', rfl, hs6, e1, e2, sa6, wl6, fit6, nds6⟩
        refine ⟨_, rfl, _, rfl, j, a, l, w, ms6, z, b6, ps, rls, ts, rss, rfl, hs6, by omega, by omega, wl6, wn, off', fit6, by omega, fun H7 ms7 b7 p kd i' ti us k7 hs7 f1 f2 deed np et rk hl => ?_⟩
        have sa7 := sa6.nl (k7.nl hs6)
        have wl7 := wl6.keep (fun c m o e => k7 _ _ (off' c m).1 (off' c m).2 e) (k7.fz hs6)
        obtain ⟨_, _, _, rs, _, _, _, er, _⟩ := wl7.at (List.getElem?_eq_some_iff.mp et).1
        have tok := okt ti (List.mem_of_getElem? et)
        obtain ⟨chg, pos⟩ := deed_chg (rss := rss) wn.nd et er (fun r m => (rk r m).ok) hl
        have wd := deed_w tok rk hl
        obtain ⟨frk, frl⟩ := fit6 i' ti rs et er
        refine ⟨_, rfl, st, dx, _, rfl, sa7.hs, rfl, _, rfl, [.ref st], [.ref p], rfl, rfl, by show 1 ≤ sizeLine; omega, fun p8 hp8 => ?_⟩
        have s8 := same_upd (o := .tup [V.ref p]) hp8
        have e8 : upd H7 p8 (.tup [V.ref p]) p8 = some (.tup [V.ref p]) := upd_same
        generalize upd H7 p8 (.tup [V.ref p]) = H8 at s8 e8 ⊢
        have sa8 := sa7.same s8
        have hs8 := hs7.but s8
        have wl8 := wl7.same s8
        obtain ⟨bs8, dt8⟩ := okd hs8 (deed.fz (Fz.of_same s8)) tok rk hl
        refine ⟨j, st, dx, tp, rd, p8, wv, ts, qs6, rss.map sortR, [.ref p], [.tup (deedL kd ti.nm us)], rfl, sa8, SqT.of e8, .cons ⟨⟨2, bs8, dt8⟩, by show 3 + Vm.ws _ ≤ 10000; omega⟩ .nil, by show 1 ≤ 20; decide, fit6.sort.fit okt, by show j + 1 ≤ 90; omega, fun _ H9 q9 qs9 du nq ⟨o9, eq9, ho9⟩ sa9 fit9 => ?_, fun i0 v0 t0 g1 g2 g3 _ => ?_⟩
        · obtain ⟨b1, b2, b3⟩ := both_step fit6 nds6 wn.nd et er rk hl pos
          rw [b1] at sa9
          have pss : posT ts (rss.map sortR) (.tup (deedL kd ti.nm us)) = possR ti kd us rs := by rw [pos_sort, pos]
          have eq9' : H9 q9 = some (.frz o9 (.tup [V.bl (possR ti kd us rs)])) := by
            rw [eq9, ← pss]
            rfl
          have tl : ∀ c : Bool, (Tr.tup [.bl c]).text.length ≤ sizeLine := fun c => by
            have a := Tr.text_le (.tup [.bl c])
            have b : (Tr.tup [.bl c]).w = 3 + ((5 + 2) + 0) := rfl
            omega
          refine ⟨.ref q9, .tup [.bl (possR ti kd us rs)], 1, _, rfl, .tup eq9' ho9 (.cons (.bl _) .nil) (by simp), by decide, tl _, ?_⟩
          have srd : ∀ b xs, H8 b = some (.lst xs) → H9 b = some (.lst xs) := fun b xs e => du b _ (fun q => by rw [q, sa8.hd] at e; cases e) e
          have fz89 := du.fz sa8.hd
          have hs9 : Src H9 a l ms7 z b7 := ⟨srd _ _ hs8.hs, srd _ _ hs8.hl, hs8.len⟩
          have wl9 := wl8.keep (fun c m o e => by
            obtain ⟨xs, e'⟩ := wl8.there c m
            rw [e'] at e
            obtain rfl := Option.some.inj e
            exact srd _ _ e') fz89
          refine ⟨_, rfl, _, rfl, w, p, ps, rls, ts, rss, kd, i', ti, us, rs, rfl, wl9, wn.nd, (deed.fz (Fz.of_same s8)).fz fz89, et, er, tok, fun r m => (rk r m).ok, fun r m => (frk r m).ok, by omega, few3, hl, fun H10 br fz wl10 => ⟨by show 1 ≤ sizeLine; omega, fun q11 o11 hq11 ho11 => ?_⟩⟩
          have s11 := same_upd (o := .frz o11 (.tup [V.bl (possR ti kd us rs)])) hq11
          refine ⟨.ref q11, .tup [.bl (possR ti kd us rs)], 1, _, rfl, .tup upd_same ho11 (.cons (.bl _) .nil) (by simp), by decide, tl _, rfl, _, rfl, ?_⟩
          rw [decide_eq_true rfl]
          have nr : ∀ c, Off a l c → True := fun _ _ => trivial
          have al : a ∉ rls ∧ l ∉ rls := ⟨fun m => (off' a (List.mem_cons_of_mem _ (List.mem_append_right _ m))).1 rfl, fun m => (off' l (List.mem_cons_of_mem _ (List.mem_append_right _ m))).2 rfl⟩
          have hs10 : Src H10 a l ms7 z b7 := ⟨br _ _ al.1 hs9.hs, br _ _ al.2 hs9.hl, hs9.len⟩
          have nl910 : NL H9 H10 := fun b o n e => br b o (fun m => by
            obtain ⟨xs, e'⟩ := wl9.there b (List.mem_cons_of_mem _ (List.mem_append_right _ m))
            rw [e'] at e
            obtain rfl := Option.some.inj e
            exact n _ rfl) e
          exact iteF ⟨ms7, b7, qs9, _, _, _, _, rfl, hs10.but s11, by omega, by omega, (sa9.nl nl910).same s11, wl10.same s11, b2, b3⟩
        · cases i0 with
          | zero =>
            obtain rfl := Option.some.inj g2
            rw [chg] at g3
            cases g3
          | succ i0 => cases g2
      · rintro σ H6 ⟨ms6, b6, qs6, rss, v2', v5', v6', rfl, hs6, e1, e2, sa6, wl6, fit6, nds6⟩
        have r15 : r.toNat ≤ 15 := by omega
        refine ⟨_, rfl, w, ps, rls, ts, rss, rfl, wl6, okt, fun i t rs e1 e2 r m => ((fit6 i t rs e1 e2).1 r m).ok, few3, fun H8 D qs8 s8 nD eD rt => ?_⟩
        have hs8 := hs6.but s8
        have sa8 := sa6.same s8
        have wl8 := wl6.same s8
        have fD := hs6.free nD
        have wlK : ∀ {H' : Hp}, But a l H8 H' → Wl H' w ps rls ts rss := fun {H'} kk => wl8.keep (fun c m o e => kk _ _ (off' c m).1 (off' c m).2 e) (kk.fz hs8)
        have cr : ∀ {H' : Hp} {v : V} {t : Tr} {n : Nat} {bs : List Addr} {Q' : VK}, But a l H8 H' → Dt K H' v t n bs → n ≤ 5 → t.w ≤ 10000 → (∀ H'', Same H' H'' → Q' (.bl true) H'') → spChgRight K C CT [.ref st, .ref w, v] H' Q' E0 :=
          fun {H' v t n bs Q'} kk d hn hw q => ⟨r.toNat, st, dx, tp, rd, wv, qs6, w, ps, rls, ts, rss, v, t, n, bs, rfl, sa8.nl (kk.nl hs8), wlK kk, wn, fit6, by omega, d, hn, hw, q⟩
        refine ⟨30, rfl, by decide, by decide, for_range (lo := 0) (n := 30) (fun i2 σ H' => ∃ (ms' : List Int) (b' : Int) (v2 v5 v6 : Option V), σ = [some (.ref sc), some (.ref a), v2, some (.ref w), some (.ref st), v5, v6, some (.ref D), v8, v9, v10] ∧ But a l H8 H' ∧ Src H' a l ms' z b' ∧ 0 ≤ b' ∧ b' ≤ 4000 * (i : Int) + 560 + 60 * (i2 : Int))
          ⟨ms6, b6, _, _, _, rfl, (fun _ _ _ _ e => e), hs8, by omega, by omega⟩ ?_ ?_⟩
        · rintro i2 σ H9 hi2 ⟨ms9, b9, v2'', v5'', v6'', rfl, k9, hs9, g1, g2⟩
          refine ⟨_, rfl, _, rfl, r.toNat, a, l, w, ms9, z, b9, ps, rls, ts, rss, rfl, hs9, by omega, by omega, wlK k9, wn, off', fit6, by omega, fun H10 ms10 b10 p kd i' ti us k10 hs10 f1 f2 deed np et rk hl => ?_⟩
          have tok := okt ti (List.mem_of_getElem? et)
          refine tV2_of (i := 0 + (i2 : Int)) (p := p) rfl rfl rfl deed hl fun H11 p11 kd11 us11 s11 d11 sub hl11 => ?_
          have rk11 : ∀ r ∈ us11, Rk ti r := fun r m => rk r (sub r m)
          have hs11 := hs10.but s11
          have k11 := (k9.trans k10).trans (.of_same s11)
          obtain ⟨bs11, dt11⟩ := okd hs11 d11 tok rk11 hl11
          have wd11 := deed_w tok rk11 hl11
          refine ⟨_, rfl, _, rfl, _, rfl, ?_⟩
          dsimp only [tNil]
          refine cr k11 dt11 (by decide) (by show 3 + Vm.ws _ ≤ 10000; omega) fun H12 s12 => ?_
          refine ⟨_, rfl, iteF ?_⟩
          have hs12 := hs11.but s12
          have k12 := k11.trans (.of_same s12)
          refine ⟨_, rfl, _, rfl, _, rfl, _, rfl, a, l, p11, ms10, z, b10, kd11, ti, us11, rfl, hs12, by omega, by omega, d11.fz (Fz.of_same s12), tok, rk11, hl11, fun H13 ms13 b13 v13 t13 k13 hs13 h1 h2 d13 w13 => ?_⟩
          obtain ⟨bs13, dt13, _⟩ := d13
          have k13' := k12.trans k13
          dsimp only [tNil]
          refine cr k13' dt13 (by decide) (by omega) fun H14 s14 => ?_
          exact ⟨_, rfl, iteF ⟨ms13, b13, _, _, _, rfl, k13'.trans (.of_same s14), hs13.but s14, by omega, by omega⟩⟩
        · rintro σ H9 ⟨ms9, b9, v2'', v5'', v6'', rfl, k9, hs9, g1, g2⟩
          refine fun vs H10 s10 ds => ⟨by rw [ds.length]; decide, fun p10 o10 hp10 ho10 => ?_⟩
          have t10 := same_upd (o := .frz o10 (.tup vs)) hp10
          have e10 : upd H10 p10 (.frz o10 (.tup vs)) p10 = some (.frz o10 (.tup vs)) := upd_same
          have ds' := ds.same t10
          have u10 := s10.trans t10
          generalize upd H10 p10 (.frz o10 (.tup vs)) = Hx at t10 e10 ds' u10 ⊢
          have kx := k9.trans (But.of_same (s := a) (l := l) u10)
          refine ⟨p10, rfl, ⟨_, .inl (.inr ⟨o10, e10⟩)⟩, for_tup (K := K) (a := p10) (xs := vs) (fun i3 σ H' => ∃ v8 : Option V, σ = [some (.ref sc), some (.ref a), v2'', some (.ref w), some (.ref st), v5'', v6'', some (.ref D), v8, v9, v10] ∧ Same Hx H') ⟨_, rfl, Same.refl _⟩ (fun i3 σ H' _ ⟨_, _, s'⟩ => .inl (.inr ⟨o10, s' _ _ e10⟩)) ?_ ?_⟩
          · rintro i3 y σ H11 hi3 ⟨v8', rfl, s11⟩
            obtain ⟨t, et, bs, dt, _⟩ := (ds'.same s11).get hi3
            have tw := lits_w t (List.mem_of_getElem? et)
            refine ⟨_, rfl, _, rfl, _, rfl, ?_⟩
            dsimp only [tNil]
            refine cr (kx.trans (.of_same s11)) dt (by decide) (by omega) fun H12 s12 => ?_
            exact ⟨_, rfl, iteF ⟨_, rfl, s11.trans s12⟩⟩
          · rintro σ H11 ⟨v8', rfl, s11⟩
            have k11 := kx.trans (But.of_same (s := a) (l := l) s11)
            have hs11 := hs9.but (u10.trans s11)
            refine ⟨_, rfl, _, rfl, _, rfl, r.toNat, a, l, ms9, z, b9, st, dx, tp, rd, wv, qs6, w, ps, rls, ts, rss, rfl, hs11, by omega, by omega, sa8.nl (k11.nl hs8), wlK k11, wn, off', fit6, by omega, fun H12 ms12 b12 k12 hs12 h1 h2 => ⟨_, rfl, iteF ?_⟩⟩
            have k12' := k11.trans k12
            have sa12 := sa8.nl (k12'.nl hs8)
            have wl12 := wlK k12'
            have eD12 := k12' _ _ fD.1 fD.2 eD
            have rt12 : RTups H12 qs8 (rss.map sortR) := rt.mono fun _ _ z => z.keep (k12'.fz hs8)
            have lq := sa12.lq
            refine ⟨_, rfl, w, rfl, ⟨_, SqL.of wl12.hw⟩, fun D2 hD2 => ?_⟩
            refine lc_list (K := K) (a := w) (xs := ps.map V.ref) (fun j H' => Same H12 H' ∧ H' D2 = some (.lst ((qs6.take j).map V.ref))) ⟨same_upd hD2, upd_same⟩ (fun j H' _ z => SqL.of (z.1 _ _ wl12.hw)) ?_ ?_
            · rintro j y H13 hj ⟨s13, e13⟩
              have jlt : j < ts.length := by
                have := (List.getElem?_eq_some_iff.mp hj).1
                rw [List.length_map, wl12.lp] at this
                exact this
              obtain ⟨pj, rlj, tj, rsj, f1, _, f3, f4, smj, vsj, h0, ⟨oj, b1, b2, b3, hsj, hodj, _⟩, _, _⟩ := wl12.at jlt
              rw [List.getElem?_map, f1] at hj
              obtain rfl := Option.some.inj hj
              have sa13 := sa12.same s13
              refine ⟨pj, [.ref smj, .ref rlj], rfl, SqL.of (s13 _ _ h0), rfl, _, _, rfl, _, _, rfl, rfl, ?_⟩
              refine ⟨rfl, ?_⟩
              dsimp only [tYes]
              rw [if_pos rfl]
              have n1 := (okt tj (List.mem_of_getElem? f3)).n1
              have fj := first_nm wn.nd f3
              refine ⟨_, rfl, st, dx, _, rfl, sa13.hs, rfl, _, rfl, smj, _, 0, .str tj.nm, rfl, rfl, .inl (.inr ⟨oj, s13 _ _ hsj⟩), rfl, st, dx, tp, rd, wv, ts, qs6, rss.map sortR, .str tj.nm, .str tj.nm, 0, [], rfl, sa13, .str (Nat.le_trans (nm_text n1).1 (by decide)) (Nat.le_trans (nm_text n1).2 (by decide)), fun i' q H' fi hq s' => ?_, fun z => ?_⟩
              · rw [fj] at fi
                obtain rfl := Option.some.inj fi
                refine ⟨_, s' _ _ e13, ?_, fun c u e => ?_, ?_⟩
                · rw [List.length_map, List.length_take]
                  omega
                · rw [upd_ne (ne_of_none e hD2)]
                  exact s' _ _ (s13 c u e)
                · rw [upd_same, List.take_add_one, hq]
                  simp
              · rw [fj] at z
                cases z
            · rintro H13 ⟨s13, e13⟩
              rw [List.length_map, wl12.lp, ← lq, List.take_length] at e13
              have ra := rtups_dp (K := K) (sa12.same s13).rw
              have rb := rtups_dp (K := K) (H := H13) (rt12.mono fun _ _ z => z.keep (Fz.of_same s13))
              refine ⟨_, rfl, .list ((rss.map sortR).map tupD), .list ((rss.map sortR).map tupD), .lst (SqL.of e13) ra, .lst (SqL.of (s13 _ _ eD12)) rb, tups_plain _, tups_plain _, ?_, _, rfl, ?_⟩
              · have h := tups_depth (rss.map sortR)
                simp only [PyData.depth]
                omega
              · have e : PyData.eqv (.list ((rss.map sortR).map tupD)) (.list ((rss.map sortR).map tupD)) = true := tups_eqv _
                show if (!PyData.eqv (.list ((rss.map sortR).map tupD)) (.list ((rss.map sortR).map tupD))) = true then _ else _
                rw [e]
                exact iteF ⟨ms12, b12, _, _, _, _, _, _, _, _, _, rfl, hs12.but s13, by omega, by omega⟩
    · rintro σ H2 _
      exact k H2
end
end Vm
namespace Vk
open PySem L2
/-- the base of a family, as the written part has it -/
structure XBase (K : PySem.W.Frag) (mg : Str → Option Value) (x : Str) (T : Addr) (initId : String) : Prop where
  g : mg x = some (.ref T)
  sg : PySem.W.specialIn K (.ref T) "__getattribute__" = some (some (.builtin "type.__getattribute__"))
  ty : PySem.W.typeIn K (.ref T) = some (.type "type")
  rd : PySem.W.readsIn K T (.type "type") = true
  fi : PySem.W.findCls K (.ref T) (.type "type") "__init__" = some (.val (.builtin initId))
def aboveB (tl : List Value) : List Value → Bool
  | .ref _ :: r => aboveB tl r
  | l => decide (l = tl)
theorem aboveB_ok {tl : List Value} : ∀ {l : List Value}, aboveB tl l = true → Above tl l
  | [], h => of_decide_eq_true (p := [] = tl) h
  | .ref c :: r, h => aboveB_ok (l := r) h
  | .none :: r, h => of_decide_eq_true (p := (Value.none :: r) = tl) h
  | .ellipsis :: r, h => of_decide_eq_true (p := (Value.ellipsis :: r) = tl) h
  | .notImplemented :: r, h => of_decide_eq_true (p := (Value.notImplemented :: r) = tl) h
  | .bool b :: r, h => of_decide_eq_true (p := (Value.bool b :: r) = tl) h
  | .int i t :: r, h => of_decide_eq_true (p := (Value.int i t :: r) = tl) h
  | .float i t :: r, h => of_decide_eq_true (p := (Value.float i t :: r) = tl) h
  | .str i t :: r, h => of_decide_eq_true (p := (Value.str i t :: r) = tl) h
  | .bytes i t :: r, h => of_decide_eq_true (p := (Value.bytes i t :: r) = tl) h
  | .type i :: r, h => of_decide_eq_true (p := (Value.type i :: r) = tl) h
  | .builtin i :: r, h => of_decide_eq_true (p := (Value.builtin i :: r) = tl) h
def clsB (K : PySem.W.Frag) (C : Addr) (nid : String) (tl : List Value) : Bool := match K.lookup C with
  | some ⟨ct, _, .cls cd, ⟨[_, _, _, _, some k4, _]⟩⟩ => decide (ct = .type "type") && (decide (k4 = .builtin nid) && (decide (cd.mro = .ref C :: cd.mro.tail) && (aboveB tl cd.mro.tail && (cd.hasDict && !cd.hasDel))))
  | _ => false
theorem both {a b : Bool} (h : (a && b) = true) : a = true ∧ b = true := Bool.and_eq_true_iff.mp h
theorem clsB_ok {K : PySem.W.Frag} {C : Addr} {nid : String} {tl : List Value} (h : clsB K C nid tl = true) :
    ∃ nm q N bs bm sn sub ab col dd k0 k1 k2 k3 k5, K.lookup C = some (excClassObj nm q C N bs bm true sn sub ab col dd k0 k1 k2 k3 k5 nid) ∧ Above tl bm := by
  unfold clsB at h
  split at h
  · rename_i ct dd cd k0 k1 k2 k3 k4 k5 e
    obtain ⟨h1, h⟩ := both h
    obtain ⟨h2, h⟩ := both h
    obtain ⟨h3, h⟩ := both h
    obtain ⟨h4, h⟩ := both h
    obtain ⟨h5, h6⟩ := both h
    have e1 := of_decide_eq_true h1
    have e2 := of_decide_eq_true h2
    have e3 := of_decide_eq_true h3
    obtain ⟨n, bs, mro, ns, q, hD, sn, sub, ab, col, hdel⟩ := cd
    have e5 : hD = true := h5
    have e6 : hdel = false := by
      cases hdel with
      | false => rfl
      | true => cases h6
    have e3' : mro = .ref C :: mro.tail := e3
    cases mro with
    | nil => cases e3'
    | cons y r =>
      injection e3' with ey
      refine ⟨n, q, ns, bs, r, sn, sub, ab, col, dd, k0, k1, k2, k3, k5, ?_, aboveB_ok h4⟩
      rw [e, e1, e2, e5, e6, ey]
  · cases h
def xcB (K : PySem.W.Frag) (C : Addr) (nid : String) (tl : List Value) : Bool := clsB K C nid tl && (decide (PySem.W.findIn K (.ref C) "__setattr__" = some (some (.builtin "object.__setattr__"))) && (decide (PySem.W.subIn K (.ref C) (.type "BaseException") = some true) &&
  (decide (PySem.W.typeIn K (.ref C) = some (.type "type")) && (PySem.W.keepIn K (.ref C) && (decide (PySem.W.findIn K (.ref C) "__getattribute__" = some (some (.builtin "BaseException.__getattribute__"))) && (decide (PySem.W.findIn K (.ref C) "__getattr__" = some none) &&
  (PySem.W.hasDictIn K C && (decide (PySem.W.findIn K (.ref C) "__class__" = some (some (.builtin "object.__class__"))) && decide (PySem.W.mroIn K C (.type "object") = some true)))))))))
theorem xcB_ok {K : PySem.W.Frag} {C : Addr} {nid : String} {tl : List Value} (h : xcB K C nid tl = true) : XC K C nid tl := by
  obtain ⟨h1, h⟩ := both h
  obtain ⟨h2, h⟩ := both h
  obtain ⟨h3, h⟩ := both h
  obtain ⟨h4, h⟩ := both h
  obtain ⟨h5, h⟩ := both h
  obtain ⟨h6, h⟩ := both h
  obtain ⟨h7, h⟩ := both h
  obtain ⟨h8, h⟩ := both h
  obtain ⟨h9, h10⟩ := both h
  exact ⟨clsB_ok h1, of_decide_eq_true h2, of_decide_eq_true h3, of_decide_eq_true h4, h5, of_decide_eq_true h6, of_decide_eq_true h7, h8, of_decide_eq_true h9, of_decide_eq_true h10⟩
def baB (K : PySem.W.Frag) (T : Addr) (initId : String) : Bool := decide (PySem.W.specialIn K (.ref T) "__getattribute__" = some (some (.builtin "type.__getattribute__"))) && (decide (PySem.W.typeIn K (.ref T) = some (.type "type")) && (PySem.W.readsIn K T (.type "type") &&
  (match PySem.W.findCls K (.ref T) (.type "type") "__init__" with
    | some (.val v) => decide (v = .builtin initId)
    | _ => false)))
theorem baB_ok {K : PySem.W.Frag} {T : Addr} {initId : String} {mg : Str → Option Value} {x : Str} (g : mg x = some (.ref T)) (h : baB K T initId = true) : XBase K mg x T initId := by
  obtain ⟨h1, h⟩ := both h
  obtain ⟨h2, h⟩ := both h
  obtain ⟨h3, h4⟩ := both h
  refine ⟨g, of_decide_eq_true h1, of_decide_eq_true h2, h3, ?_⟩
  split at h4
  · rename_i v e
    rw [e, of_decide_eq_true h4]
  · cases h4
abbrev sIC : Stmt := inClass (Vm.top 5) 0
abbrev sIU : Stmt := inClass (Vm.top 8) 0
section
variable {P : Program} {w : World} {K : PySem.W.Frag} {mg : Str → Option Value} {base : Heap}
theorem scIC : FnScope ["self", "change"] ["self", "change"] (defScope sIC) := ⟨rfl, rfl, rfl, by decide +kernel, rfl, by decide +kernel, by decide +kernel⟩
theorem ok_initC {f C T : Addr} {fd : FuncData} (F : Fun K "__init__" "InvalidChange.__init__" sIC f fd) (X : XC K C "ValueError.__new__" veT) (B : XBase K mg "TurnError" T "ValueError.__init__") (no : PySem.W.findIn K (.ref C) "change" = some none) :
    FnOk P w K mg base CX0 1 f fd ["self", "change"] (spXInit C "change") := by
  refine F.ok scIC (fun vs H Q E h => ?_) (fun cdv A outer s H vs Q E hr h => ?_)
  · obtain ⟨e, v, rfl, _⟩ := h
    rfl
  · obtain ⟨e, v, rfl, he, k⟩ := h
    refine ⟨_, pss_cons (ps_expr (pe_binit famV rfl B.g B.sg B.ty B.rd B.fi (by decide +kernel) (pa_cons (pv 0) (pa_cons pe_str pa_nil)))) (pss_one (ps_xst famV (pv 0) (pv 1))), ?_⟩
    exact ⟨_, rfl, e, C, _, rfl, (by show 1 ≤ 1000; decide), X, he, _, rfl, _, rfl, e, C, rfl, X, no, he, k⟩
theorem scIU : FnScope ["self", "name"] ["self", "name"] (defScope sIU) := ⟨rfl, rfl, rfl, by decide +kernel, rfl, by decide +kernel, by decide +kernel⟩
theorem ok_initU {f C T : Addr} {fd : FuncData} (F : Fun K "__init__" "UnknownTable.__init__" sIU f fd) (X : XC K C "LookupError.__new__" keT) (B : XBase K mg "Unknown" T "KeyError.__init__") (no : PySem.W.findIn K (.ref C) "name" = some none) :
    FnOk P w K mg base CX0 1 f fd ["self", "name"] (spXInit C "name") := by
  refine F.ok scIU (fun vs H Q E h => ?_) (fun cdv A outer s H vs Q E hr h => ?_)
  · obtain ⟨e, v, rfl, _⟩ := h
    rfl
  · obtain ⟨e, v, rfl, he, k⟩ := h
    refine ⟨_, pss_cons (ps_expr (pe_binit famK rfl B.g B.sg B.ty B.rd B.fi (by decide +kernel) (pa_cons (pv 0) (pa_cons pe_str pa_nil)))) (pss_one (ps_xst famK (pv 0) (pv 1))), ?_⟩
    exact ⟨_, rfl, e, C, _, rfl, (by show 1 ≤ 1000; decide), X, he, _, rfl, _, rfl, e, C, rfl, X, no, he, k⟩
end
end Vk
namespace Vm
open PySem L2
/-! the lengths of changes; Store.MOST -/
def kvB (e : DictEntry) (x : Str) (i : Int) : Bool := match e.key, e.val with
  | .str y _, .int j _ => decide (y = x) && decide (j = i)
  | _, _ => false
theorem kvB_ok {e : DictEntry} {x : Str} {i : Int} (h : kvB e x i = true) : (∀ z : Str, e.key.isStr z = (x == z)) ∧ e.refKey = false ∧ RelV (.int i) e.val := by
  unfold kvB at h
  split at h
  · rename_i y t j u ek ev
    obtain ⟨h1, h2⟩ := Bool.and_eq_true_iff.mp h
    have e1 := of_decide_eq_true h1
    have e2 := of_decide_eq_true h2
    subst e1 e2
    refine ⟨fun z => ?_, ?_, ?_⟩
    · rw [ek]
      rfl
    · unfold DictEntry.refKey
      rw [ek]
    · rw [ev]
      exact ⟨u, rfl⟩
  · cases h
def lensB (K : PySem.W.Frag) (a : Addr) : Bool := match K.lookup a with
  | some ⟨_, _, .dict es _, _⟩ => (match es.toList with
    | [e1, e2, e3] => kvB e1 insS 3 && (kvB e2 delS 3 && kvB e3 repS 4)
    | _ => false)
  | _ => false
theorem lens_ok {K : PySem.W.Frag} {a : Addr} (h : lensB K a = true) : ∀ z, ∃ r, PySem.W.nsIn K a z = some r ∧ RelV (lenV z) (r.getD .none) := by
  unfold lensB at h
  split at h
  · rename_i c d es n sl l
    split at h
    · rename_i e1 e2 e3 el
      obtain ⟨h1, h⟩ := Bool.and_eq_true_iff.mp h
      obtain ⟨h2, h3⟩ := Bool.and_eq_true_iff.mp h
      obtain ⟨a1, b1, c1⟩ := kvB_ok h1
      obtain ⟨a2, b2, c2⟩ := kvB_ok h2
      obtain ⟨a3, b3, c3⟩ := kvB_ok h3
      intro z
      unfold PySem.W.nsIn
      rw [l]
      dsimp only
      rw [el, List.find?_cons, a1]
      by_cases q1 : z = insS
      · subst q1
        rw [beq_self_eq_true]
        exact ⟨_, rfl, by
          have : lenV insS = .int 3 := by decide +kernel
          rw [this]
          exact c1⟩
      rw [beq_eq_false_iff_ne.mpr fun q => q1 q.symm]
      dsimp only
      rw [List.find?_cons, a2]
      by_cases q2 : z = delS
      · subst q2
        rw [beq_self_eq_true]
        exact ⟨_, rfl, by
          have : lenV delS = .int 3 := by decide +kernel
          rw [this]
          exact c2⟩
      rw [beq_eq_false_iff_ne.mpr fun q => q2 q.symm]
      dsimp only
      rw [List.find?_cons, a3]
      by_cases q3 : z = repS
      · subst q3
        rw [beq_self_eq_true]
        exact ⟨_, rfl, by
          rw [lenV_rep]
          exact c3⟩
      rw [beq_eq_false_iff_ne.mpr fun q => q3 q.symm]
      dsimp only
      rw [List.find?_nil]
      dsimp only
      have e : lenV z = .non := by
        unfold lenV
        rw [if_neg q1, if_neg (show ¬ z = "delete" from q2), if_neg (show ¬ z = "replace" from q3)]
      rw [e]
      refine ⟨none, ?_, rfl⟩
      rw [if_neg]
      simp [b1, b2, b3]
    · cases h
  · cases h
def mostB (K : PySem.W.Frag) (C : Addr) : Bool := match PySem.W.findCls K (.ref C) (.type "type") "MOST" with
  | some (.val (.int i _)) => decide (i = 3)
  | _ => false
theorem mostB_ok {K : PySem.W.Frag} {C : Addr} (h : mostB K C = true) : ∃ u, ClX.CVal K C (.type "type") "MOST" (.int 3) u := by
  unfold mostB at h
  split at h
  · rename_i i t e
    exact ⟨_, e, by
      rw [of_decide_eq_true h]
      exact ⟨t, rfl⟩⟩
  · cases h
end Vm
namespace Vm
open PySem L2
/-! the written part, read by names -/
theorem both {a b : Bool} (h : (a && b) = true) : a = true ∧ b = true := Bool.and_eq_true_iff.mp h
/-- a def that stands at a -/
def fnAt (K : PySem.W.Frag) (a : Addr) : He.FnV := match K.lookup a with
  | some ⟨_, _, .func fd, _⟩ => some (fd.name, fd.qualname, fd.params, fd.body, fd.scope, fd.globals, fd.closure, fd.defaults, fd.builtins)
  | _ => none
def codeAt (K : PySem.W.Frag) (a : Addr) (q : Str) : Bool := match K.lookup a with
  | some ⟨_, _, .func fd, _⟩ => PySem.W.codeIn K fd.code q
  | _ => false
theorem fnAt_ok {K : PySem.W.Frag} {a : Addr} {x q : Str} {st : Stmt} (e : fnAt K a = some (x, q, defArgs st, .stmts (defBody st), defScope st, mainGlobals, [], .none, builtinsNs)) (c : codeAt K a q = true) : ∃ fd, Fun K x q st a fd := by
  have kp : PySem.W.keepIn K (.ref a) = true := by
    unfold codeAt at c
    unfold PySem.W.keepIn
    split at c
    · rename_i l
      dsimp only
      simp only [l]
    · cases c
  unfold fnAt at e
  unfold codeAt at c
  cases l : K.lookup a with
  | none =>
    rw [l] at c
    cases c
  | some o =>
    obtain ⟨oc, od, dt, osl⟩ := o
    rw [l] at c e
    cases dt with
    | func fd =>
      obtain ⟨n1, n2, n3, n4, n5, n6, n7, n8, n9, n10, n11, n12, n13, n14, n15⟩ := fd
      have e2 : (some (n1, n2, n3, n4, n5, n6, n7, n8, n15) : He.FnV) = some (x, q, defArgs st, .stmts (defBody st), defScope st, mainGlobals, [], .none, builtinsNs) := e
      simp only [Option.some.injEq, Prod.mk.injEq] at e2
      obtain ⟨h1, h2, h3, h4, h5, h6, h7, h8, h9⟩ := e2
      subst h1 h2 h3 h4 h5 h6 h7 h8 h9
      exact ⟨_, fun_mk l c kp⟩
    | _ => cases c
def tyNames : List String := ["NoneType", "bool", "int", "str", "list", "tuple", "dict"]
theorem tyNames_all {p : String → Bool} (h : tyNames.all p = true) (t : Tr) : p (tyOf t) = true := by
  refine List.all_eq_true.mp h _ ?_
  cases t <;> simp [tyNames, tyOf]
def ktupB (K : PySem.W.Frag) (a : Addr) : Bool := match K.lookup a with
  | some ⟨.type c, _, .seq its _, _⟩ => decide (c = "tuple") && decide (its.toList = [])
  | _ => false
theorem ktupB_ok {K : PySem.W.Frag} {a : Addr} (h : ktupB K a = true) : KTup K a := by
  unfold ktupB at h
  split at h
  · rename_i c dd its n sl l
    obtain ⟨h1, h2⟩ := both h
    have e1 := of_decide_eq_true h1
    have e2 := of_decide_eq_true h2
    refine ⟨_, its, n, l, by rw [e1], rfl, ?_, ?_⟩
    · have : its.size = 0 := by
        rw [← Array.length_toList, e2]
        rfl
      rw [this]
      exact Nat.zero_le _
    · rw [e2]
      exact .nil
  · cases h
abbrev aT (K : PySem.W.Frag) : Addr := He.ga K "Table"
abbrev aS (K : PySem.W.Frag) : Addr := He.ga K "Store"
abbrev aI (K : PySem.W.Frag) : Addr := He.ga K "InvalidTable"
abbrev aX (K : PySem.W.Frag) : Addr := He.ga K "InvalidChange"
abbrev aU (K : PySem.W.Frag) : Addr := He.ga K "UnknownTable"
abbrev aL (K : PySem.W.Frag) : Addr := He.ga K "_LENGTHS"
def pA (K : PySem.W.Frag) : Addr := He.ma K (aT K) "columns"
def gA (K : PySem.W.Frag) : Addr := match PySem.W.recIn K (pA K) "property" with
  | some (.ref g :: _) => g
  | _ => 0
def recB (K : PySem.W.Frag) : Bool := match PySem.W.recIn K (pA K) "property" with
  | some (.ref _ :: _) => true
  | _ => false
theorem recB_ok {K : PySem.W.Frag} (h : recB K = true) : ∃ rest, PySem.W.recIn K (pA K) "property" = some (.ref (gA K) :: rest) := by
  unfold recB at h
  split at h
  · rename_i g r e
    refine ⟨r, ?_⟩
    unfold gA
    rw [e]
  · cases h
abbrev d0 : PySem.W.Frag → Addr := He.dflAt ("Table", some "__init__") 0
abbrev d1 : PySem.W.Frag → Addr := He.dflAt ("Table", some "__init__") 1
def gDef : He.FnV := some ("columns", "Table.columns", defArgs sColumns, .stmts (defBody sColumns), defScope sColumns, mainGlobals, [], .none, builtinsNs)
def dInit : He.DefD := { at_ := ("Table", some "__init__"), name := "__init__", qual := "Table.__init__", params := defArgs sInit, body := defBody sInit, scope := defScope sInit, dfl := [.adr d0, .adr d1] }

def chk (K : PySem.W.Frag) : Bool :=
  ((dInit.ok K) &&
  ((codeAt K (gA K) "Table.columns") &&
  ((He.eqO (PySem.W.findIn K (.ref (aT K)) "columns") (some (some (.ref (pA K))))) &&
  ((decide (PySem.W.specialIn K (.ref (pA K)) "__get__" = some (some (.builtin "property.__get__")))) &&
  ((decide (PySem.W.takesIn K (.ref (pA K)) = some true)) &&
  ((recB K) &&
  ((decide (PySem.W.findIn K (.ref (aT K)) "__class__" = some (some (.builtin "object.__class__")))) &&
  ((decide (PySem.W.specialIn K (.builtin "object.__class__") "__get__" = some (some (.builtin "getset_descriptor.__get__")))) &&
  ((decide (PySem.W.takesIn K (.builtin "object.__class__") = some true)) &&
  ((decide (PySem.W.mroIn K (aT K) (.type "object") = some true)) &&
  ((decide (PySem.W.kitOne K (.ref (aT K)) (.ref (aT K)) = some true)) &&
  ((Vk.xcB K (aX K) "ValueError.__new__" Vk.veT) &&
  ((Vk.xcB K (aU K) "LookupError.__new__" Vk.keT) &&
  ((Vk.baB K (He.ga K "TurnError") "ValueError.__init__") &&
  ((Vk.baB K (He.ga K "Unknown") "KeyError.__init__") &&
  ((decide (PySem.W.kitOne K (.ref (aX K)) (.ref (He.ga K "TurnError")) = some true)) &&
  ((decide (PySem.W.kitOne K (.ref (aX K)) (.type "ValueError") = some true)) &&
  ((decide (PySem.W.kitOne K (.ref (aU K)) (.ref (He.ga K "Unknown")) = some true)) &&
  ((decide (PySem.W.kitOne K (.ref (aU K)) (.type "KeyError") = some true)) &&
  ((decide (PySem.W.kitOne K (.ref (aU K)) (.ref (He.ga K "TurnError")) = some false)) &&
  ((lensB K (aL K)) &&
  ((mostB K (aS K)) &&
  ((PySem.W.readsIn K (aS K) (.type "type")) &&
  (decide (PySem.W.specialIn K (.ref (aS K)) "__getattribute__" = some (some (.builtin "type.__getattribute__")))))))))))))))))))))))))))
def faL : List He.Fa := [.glo "_law_source", .glo "_law_draw", .glo "_law_pick", .glo "_law_columns", .glo "_law_arguments", .glo "_law_world", .glo "_law_made_tables", .glo "_law_store", .glo "_law_row", .glo "_law_near", .glo "_law_key", .glo "_law_is_barred", .glo "_law_is_possible", .glo "_law_change", .glo "_law_follow", .glo "_law_told", .glo "_law_odd", .glo "_law_bent", .glo "_law_is_name", .glo "_law_is_row", .glo "_law_is_change", .glo "_law_heard", .glo "_law_named", .glo "_law_names_right", .glo "_law_change_right", .glo "law", .glo "is_number", .glo "is_name", .glo "_are_columns", .glo "_are_names", .glo "_is_key", .glo "table_named", .glo "_taken_and_put", .glo "_clashes", .glo "is_possible_in", .glo "rows_after", .glo "changed_parts", .glo "is_change_of", .glo "Table", .glo "Store", .glo "InvalidTable", .glo "TurnError", .glo "InvalidChange", .glo "UnknownTable", .glo "Unknown", .glo "_LENGTHS", .free "isinstance", .free "int", .free "bool", .free "str", .free "tuple", .free "len", .free "all", .free "any", .free "set", .free "list", .free "range", .free "repr", .free "enumerate", .free "min", .free "max", .free "sum", .free "sorted", .free "ValueError", .free "KeyError", .int "_LONGEST_NAME" 8, .int "_MOST_COLUMNS" 2, .cls "Table", .cls "Store", .noat "Table" "name", .noat "Table" "names", .noat "Table" "numbers", .noat "Table" "key", .noat "Store" "_tables", .noat "Store" "_rows", .noat "InvalidChange" "change", .noat "UnknownTable" "name", .meth "Table" "is_row", .meth "Table" "clash", .meth "Store" "table_of", .meth "Store" "rows_of", .meth "Store" "is_change", .meth "Store" "is_possible", .meth "InvalidChange" "__init__", .meth "UnknownTable" "__init__", .meth "Store" "do", .mkr "Table", .mkr "Store", .exc "InvalidTable", .exm "InvalidChange" "InvalidChange" true, .exm "UnknownTable" "UnknownTable" true]
def fnL : List He.FnD := [⟨("_law_source", none), "_law_source", "_law_source", defArgs sSource, defBody sSource, defScope sSource⟩, ⟨("_law_draw", none), "_law_draw", "_law_draw", defArgs sDraw, defBody sDraw, defScope sDraw⟩, ⟨("_law_pick", none), "_law_pick", "_law_pick", defArgs sPick, defBody sPick, defScope sPick⟩, ⟨("_law_columns", none), "_law_columns", "_law_columns", defArgs sColumnsL, defBody sColumnsL, defScope sColumnsL⟩, ⟨("_law_arguments", none), "_law_arguments", "_law_arguments", defArgs sArgs, defBody sArgs, defScope sArgs⟩, ⟨("_law_world", none), "_law_world", "_law_world", defArgs sWorld, defBody sWorld, defScope sWorld⟩, ⟨("_law_made_tables", none), "_law_made_tables", "_law_made_tables", defArgs sMadeT, defBody sMadeT, defScope sMadeT⟩, ⟨("_law_store", none), "_law_store", "_law_store", defArgs sStoreL, defBody sStoreL, defScope sStoreL⟩, ⟨("_law_row", none), "_law_row", "_law_row", defArgs sRowL, defBody sRowL, defScope sRowL⟩, ⟨("_law_near", none), "_law_near", "_law_near", defArgs sNear, defBody sNear, defScope sNear⟩, ⟨("_law_key", none), "_law_key", "_law_key", defArgs sKeyL, defBody sKeyL, defScope sKeyL⟩, ⟨("_law_is_barred", none), "_law_is_barred", "_law_is_barred", defArgs sBarred, defBody sBarred, defScope sBarred⟩, ⟨("_law_is_possible", none), "_law_is_possible", "_law_is_possible", defArgs sPossL, defBody sPossL, defScope sPossL⟩, ⟨("_law_change", none), "_law_change", "_law_change", defArgs sChangeL, defBody sChangeL, defScope sChangeL⟩, ⟨("_law_follow", none), "_law_follow", "_law_follow", defArgs sFollow, defBody sFollow, defScope sFollow⟩, ⟨("_law_told", none), "_law_told", "_law_told", defArgs sTold, defBody sTold, defScope sTold⟩, ⟨("_law_odd", none), "_law_odd", "_law_odd", defArgs sOddL, defBody sOddL, defScope sOddL⟩, ⟨("_law_bent", none), "_law_bent", "_law_bent", defArgs sBent, defBody sBent, defScope sBent⟩, ⟨("_law_is_name", none), "_law_is_name", "_law_is_name", defArgs sLIsName, defBody sLIsName, defScope sLIsName⟩, ⟨("_law_is_row", none), "_law_is_row", "_law_is_row", defArgs sLIsRow, defBody sLIsRow, defScope sLIsRow⟩, ⟨("_law_is_change", none), "_law_is_change", "_law_is_change", defArgs sIsChangeL, defBody sIsChangeL, defScope sIsChangeL⟩, ⟨("_law_heard", none), "_law_heard", "_law_heard", defArgs sHeard, defBody sHeard, defScope sHeard⟩, ⟨("_law_named", none), "_law_named", "_law_named", defArgs sNamedL, defBody sNamedL, defScope sNamedL⟩, ⟨("_law_names_right", none), "_law_names_right", "_law_names_right", defArgs sNamesRight, defBody sNamesRight, defScope sNamesRight⟩, ⟨("_law_change_right", none), "_law_change_right", "_law_change_right", defArgs sChgRight, defBody sChgRight, defScope sChgRight⟩, ⟨("law", none), "law", "law", defArgs sLaw, defBody sLaw, defScope sLaw⟩, ⟨("is_number", none), "is_number", "is_number", defArgs sIsNum, defBody sIsNum, defScope sIsNum⟩, ⟨("is_name", none), "is_name", "is_name", defArgs sIsName, defBody sIsName, defScope sIsName⟩, ⟨("_are_columns", none), "_are_columns", "_are_columns", defArgs sAreCols, defBody sAreCols, defScope sAreCols⟩, ⟨("_are_names", none), "_are_names", "_are_names", defArgs sAreNames, defBody sAreNames, defScope sAreNames⟩, ⟨("_is_key", none), "_is_key", "_is_key", defArgs sIsKey, defBody sIsKey, defScope sIsKey⟩, ⟨("table_named", none), "table_named", "table_named", defArgs sNamed, defBody sNamed, defScope sNamed⟩, ⟨("_taken_and_put", none), "_taken_and_put", "_taken_and_put", defArgs sTaken, defBody sTaken, defScope sTaken⟩, ⟨("_clashes", none), "_clashes", "_clashes", defArgs sClashes, defBody sClashes, defScope sClashes⟩, ⟨("is_possible_in", none), "is_possible_in", "is_possible_in", defArgs sPossIn, defBody sPossIn, defScope sPossIn⟩, ⟨("rows_after", none), "rows_after", "rows_after", defArgs sAfter, defBody sAfter, defScope sAfter⟩, ⟨("changed_parts", none), "changed_parts", "changed_parts", defArgs sParts, defBody sParts, defScope sParts⟩, ⟨("is_change_of", none), "is_change_of", "is_change_of", defArgs sChangeOf, defBody sChangeOf, defScope sChangeOf⟩, ⟨("Table", some "is_row"), "is_row", "Table.is_row", defArgs sIsRow, defBody sIsRow, defScope sIsRow⟩, ⟨("Table", some "clash"), "clash", "Table.clash", defArgs sClash, defBody sClash, defScope sClash⟩, ⟨("Store", some "table_of"), "table_of", "Store.table_of", defArgs sTableOf, defBody sTableOf, defScope sTableOf⟩, ⟨("Store", some "rows_of"), "rows_of", "Store.rows_of", defArgs sRowsOf, defBody sRowsOf, defScope sRowsOf⟩, ⟨("Store", some "is_change"), "is_change", "Store.is_change", defArgs sIsChange, defBody sIsChange, defScope sIsChange⟩, ⟨("Store", some "is_possible"), "is_possible", "Store.is_possible", defArgs sIsPossible, defBody sIsPossible, defScope sIsPossible⟩, ⟨("InvalidChange", some "__init__"), "__init__", "InvalidChange.__init__", defArgs Vk.sIC, defBody Vk.sIC, defScope Vk.sIC⟩, ⟨("UnknownTable", some "__init__"), "__init__", "UnknownTable.__init__", defArgs Vk.sIU, defBody Vk.sIU, defScope Vk.sIU⟩, ⟨("Store", some "do"), "do", "Store.do", defArgs sDo, defBody sDo, defScope sDo⟩, ⟨("Store", some "__init__"), "__init__", "Store.__init__", defArgs sSInit, defBody sSInit, defScope sSInit⟩]
section
variable {K : PySem.W.Frag} {h : Heap} {mg : Str → Option Value} {fa : List He.Fa} {fn : List He.FnD}
theorem fun_of (c : He.SaysE fa fn K) (i : Nat) {p : Str × Option Str} {x q : Str} {st : Stmt} (e : fn[i]? = some ⟨p, x, q, defArgs st, defBody st, defScope st⟩) : ∃ fd, Fun K x q st (He.fAd K p) fd := by
  obtain ⟨oc, od, osl, kV, doc, pm, an, cdv, ct, l, cc⟩ := c.def_ i e
  refine ⟨_, fun_mk l cc ?_⟩
  show PySem.W.keepIn K (.ref (He.fAd K p)) = true
  unfold PySem.W.keepIn
  dsimp only at l
  simp only [l]
theorem _root_.L2.Fun.kb {x qual : Str} {st : Stmt} {f : Addr} {fd : FuncData} {ps ks : List Str} {g : List Value → List Value → List Value} {gV : List V → List V → List V} (F : Fun K x qual st f fd)
    (e : ∀ (kV doc pm : Value) (an : Option Addr) (cdv ct : Value) (us ws : List Value), (g us ws).length = ps.length → bindArgs (PySem.W.fnOf x qual (defArgs st) (defBody st) (defScope st) .none kV doc pm an cdv ct) ⟨us, ks.zip ws⟩ = pure (ps.zip (g us ws)))
    (rel : ∀ {vs : List V} {us : List Value} {zs : List V} {ws : List Value}, Vals vs us → Vals zs ws → Vals (gV vs zs) (g us ws)) : KBinds K fd ps ks g gV := ⟨fun s us ws _ hl => by
  obtain ⟨oc, od, kV, doc, pm, an, cdv, ct, osl, rfl, lk, hcd⟩ := F.ex
  exact .of_eq (e kV doc pm an cdv ct us ws hl), rel⟩
end

def hw1 (us ws : List Value) : List Value := match us, ws with
  | [a], [x] => [a, x]
  | _, _ => []
theorem hw1_rel {vs : List V} {us : List Value} {zs : List V} {ws : List Value} (a : Vals vs us) (b : Vals zs ws) : Vals (kwP vs zs) (hw1 us ws) := by
  cases a with
  | nil => exact .nil
  | cons h r => cases r with
    | cons _ _ => exact .nil
    | nil => cases b with
      | nil => exact .nil
      | cons h2 r2 => cases r2 with
        | nil => exact .cons h (.cons h2 .nil)
        | cons _ _ => exact .nil
section
variable {P : Program} {w : World} {K : PySem.W.Frag} {h : Heap} {mg : Str → Option Value}
theorem all_of (X : K.In h) (G : h.Ns mainGlobals mg) (c : He.SaysE faL fnL K) (z : chk K = true) (eI : He.fnW K ("Table", some "__init__") = dInit.val) (eG : fnAt K (gA K) = gDef) (eD : He.dicW K (aL K) = some (He.keysIn w.params ["insert", "delete", "replace"])) {f : Addr} (hf : mg "law" = some (.ref f)) :
    ∃ fd : FuncData, (∀ (s : Shared) (v : Value), BindsTo s fd ⟨[v], []⟩ [("_law_script", v)]) ∧ ∀ base : Heap, K.In base → base.Ns mainGlobals mg → FnG P w K mg base CX0 9 f fd ["_law_script"] (spLaw K) := by
  obtain ⟨z1, z⟩ := both z
  obtain ⟨z2, z⟩ := both z
  obtain ⟨z3, z⟩ := both z
  obtain ⟨z4, z⟩ := both z
  obtain ⟨z5, z⟩ := both z
  obtain ⟨z6, z⟩ := both z
  obtain ⟨z7, z⟩ := both z
  obtain ⟨z8, z⟩ := both z
  obtain ⟨z9, z⟩ := both z
  obtain ⟨z10, z⟩ := both z
  obtain ⟨z11, z⟩ := both z
  obtain ⟨z12, z⟩ := both z
  obtain ⟨z13, z⟩ := both z
  obtain ⟨z14, z⟩ := both z
  obtain ⟨z15, z⟩ := both z
  obtain ⟨z16, z⟩ := both z
  obtain ⟨z17, z⟩ := both z
  obtain ⟨z18, z⟩ := both z
  obtain ⟨z19, z⟩ := both z
  obtain ⟨z20, z⟩ := both z
  obtain ⟨z21, z⟩ := both z
  obtain ⟨z22, z⟩ := both z
  obtain ⟨z23, z⟩ := both z
  obtain ⟨fdS, FS⟩ := fun_of c 0 (p := ("_law_source", none)) (x := "_law_source") (q := "_law_source") (st := sSource) rfl
  have cS : Calls K mg "_law_source" (He.ga K "_law_source") := ⟨He.glo_ok X G (c.fact 0 (f := .glo "_law_source") rfl), FS.kp⟩
  have bS : Binds K fdS ["_law_script"] [] := FS.binds fun _ _ _ _ _ _ us hl => match us, hl with | [_], _ => rfl
  obtain ⟨fdD, FD⟩ := fun_of c 1 (p := ("_law_draw", none)) (x := "_law_draw") (q := "_law_draw") (st := sDraw) rfl
  have cD : Calls K mg "_law_draw" (He.ga K "_law_draw") := ⟨He.glo_ok X G (c.fact 1 (f := .glo "_law_draw") rfl), FD.kp⟩
  have bD : Binds K fdD ["_law_source_here", "_law_many"] [] := FD.binds fun _ _ _ _ _ _ us hl => match us, hl with | [_, _], _ => rfl
  obtain ⟨fdP, FP⟩ := fun_of c 2 (p := ("_law_pick", none)) (x := "_law_pick") (q := "_law_pick") (st := sPick) rfl
  have cP : Calls K mg "_law_pick" (He.ga K "_law_pick") := ⟨He.glo_ok X G (c.fact 2 (f := .glo "_law_pick") rfl), FP.kp⟩
  have bP : Binds K fdP ["_law_source_here", "_law_items"] [] := FP.binds fun _ _ _ _ _ _ us hl => match us, hl with | [_, _], _ => rfl
  obtain ⟨fdLc, FLc⟩ := fun_of c 3 (p := ("_law_columns", none)) (x := "_law_columns") (q := "_law_columns") (st := sColumnsL) rfl
  have cLc : Calls K mg "_law_columns" (He.ga K "_law_columns") := ⟨He.glo_ok X G (c.fact 3 (f := .glo "_law_columns") rfl), FLc.kp⟩
  have bLc : Binds K fdLc ["_law_source_here", "_law_many"] [] := FLc.binds fun _ _ _ _ _ _ us hl => match us, hl with | [_, _], _ => rfl
  obtain ⟨fdLa, FLa⟩ := fun_of c 4 (p := ("_law_arguments", none)) (x := "_law_arguments") (q := "_law_arguments") (st := sArgs) rfl
  have cLa : Calls K mg "_law_arguments" (He.ga K "_law_arguments") := ⟨He.glo_ok X G (c.fact 4 (f := .glo "_law_arguments") rfl), FLa.kp⟩
  have bLa : Binds K fdLa ["_law_source_here", "_law_title"] [] := FLa.binds fun _ _ _ _ _ _ us hl => match us, hl with | [_, _], _ => rfl
  obtain ⟨fdW, FW⟩ := fun_of c 5 (p := ("_law_world", none)) (x := "_law_world") (q := "_law_world") (st := sWorld) rfl
  have cW : Calls K mg "_law_world" (He.ga K "_law_world") := ⟨He.glo_ok X G (c.fact 5 (f := .glo "_law_world") rfl), FW.kp⟩
  have bW : Binds K fdW ["_law_source_here"] [] := FW.binds fun _ _ _ _ _ _ us hl => match us, hl with | [_], _ => rfl
  obtain ⟨fdLm, FLm⟩ := fun_of c 6 (p := ("_law_made_tables", none)) (x := "_law_made_tables") (q := "_law_made_tables") (st := sMadeT) rfl
  have cLm : Calls K mg "_law_made_tables" (He.ga K "_law_made_tables") := ⟨He.glo_ok X G (c.fact 6 (f := .glo "_law_made_tables") rfl), FLm.kp⟩
  have bLm : Binds K fdLm ["_law_world_here"] [] := FLm.binds fun _ _ _ _ _ _ us hl => match us, hl with | [_], _ => rfl
  obtain ⟨fdLs, FLs⟩ := fun_of c 7 (p := ("_law_store", none)) (x := "_law_store") (q := "_law_store") (st := sStoreL) rfl
  have cLs : Calls K mg "_law_store" (He.ga K "_law_store") := ⟨He.glo_ok X G (c.fact 7 (f := .glo "_law_store") rfl), FLs.kp⟩
  have bLs : Binds K fdLs ["_law_world_here"] [] := FLs.binds fun _ _ _ _ _ _ us hl => match us, hl with | [_], _ => rfl
  obtain ⟨fdLr, FLr⟩ := fun_of c 8 (p := ("_law_row", none)) (x := "_law_row") (q := "_law_row") (st := sRowL) rfl
  have cLr : Calls K mg "_law_row" (He.ga K "_law_row") := ⟨He.glo_ok X G (c.fact 8 (f := .glo "_law_row") rfl), FLr.kp⟩
  have bLr : Binds K fdLr ["_law_source_here", "_law_some"] [] := FLr.binds fun _ _ _ _ _ _ us hl => match us, hl with | [_, _], _ => rfl
  obtain ⟨fdLn, FLn⟩ := fun_of c 9 (p := ("_law_near", none)) (x := "_law_near") (q := "_law_near") (st := sNear) rfl
  have cLn : Calls K mg "_law_near" (He.ga K "_law_near") := ⟨He.glo_ok X G (c.fact 9 (f := .glo "_law_near") rfl), FLn.kp⟩
  have bLn : Binds K fdLn ["_law_source_here", "_law_some", "_law_rows"] [] := FLn.binds fun _ _ _ _ _ _ us hl => match us, hl with | [_, _, _], _ => rfl
  obtain ⟨fdLk, FLk⟩ := fun_of c 10 (p := ("_law_key", none)) (x := "_law_key") (q := "_law_key") (st := sKeyL) rfl
  have cLk : Calls K mg "_law_key" (He.ga K "_law_key") := ⟨He.glo_ok X G (c.fact 10 (f := .glo "_law_key") rfl), FLk.kp⟩
  have bLk : Binds K fdLk ["_law_some", "_law_row_here"] [] := FLk.binds fun _ _ _ _ _ _ us hl => match us, hl with | [_, _], _ => rfl
  obtain ⟨fdLb, FLb⟩ := fun_of c 11 (p := ("_law_is_barred", none)) (x := "_law_is_barred") (q := "_law_is_barred") (st := sBarred) rfl
  have cLb : Calls K mg "_law_is_barred" (He.ga K "_law_is_barred") := ⟨He.glo_ok X G (c.fact 11 (f := .glo "_law_is_barred") rfl), FLb.kp⟩
  have bLb : Binds K fdLb ["_law_some", "_law_rows", "_law_row_here"] [] := FLb.binds fun _ _ _ _ _ _ us hl => match us, hl with | [_, _, _], _ => rfl
  obtain ⟨fdLp, FLp⟩ := fun_of c 12 (p := ("_law_is_possible", none)) (x := "_law_is_possible") (q := "_law_is_possible") (st := sPossL) rfl
  have cLp : Calls K mg "_law_is_possible" (He.ga K "_law_is_possible") := ⟨He.glo_ok X G (c.fact 12 (f := .glo "_law_is_possible") rfl), FLp.kp⟩
  have bLp : Binds K fdLp ["_law_world_here", "_law_deed"] [] := FLp.binds fun _ _ _ _ _ _ us hl => match us, hl with | [_, _], _ => rfl
  obtain ⟨fdLh, FLh⟩ := fun_of c 13 (p := ("_law_change", none)) (x := "_law_change") (q := "_law_change") (st := sChangeL) rfl
  have cLh : Calls K mg "_law_change" (He.ga K "_law_change") := ⟨He.glo_ok X G (c.fact 13 (f := .glo "_law_change") rfl), FLh.kp⟩
  have bLh : Binds K fdLh ["_law_source_here", "_law_world_here"] [] := FLh.binds fun _ _ _ _ _ _ us hl => match us, hl with | [_, _], _ => rfl
  obtain ⟨fdLf, FLf⟩ := fun_of c 14 (p := ("_law_follow", none)) (x := "_law_follow") (q := "_law_follow") (st := sFollow) rfl
  have cLf : Calls K mg "_law_follow" (He.ga K "_law_follow") := ⟨He.glo_ok X G (c.fact 14 (f := .glo "_law_follow") rfl), FLf.kp⟩
  have bLf : Binds K fdLf ["_law_world_here", "_law_deed"] [] := FLf.binds fun _ _ _ _ _ _ us hl => match us, hl with | [_, _], _ => rfl
  obtain ⟨fdLt, FLt⟩ := fun_of c 15 (p := ("_law_told", none)) (x := "_law_told") (q := "_law_told") (st := sTold) rfl
  have cLt : Calls K mg "_law_told" (He.ga K "_law_told") := ⟨He.glo_ok X G (c.fact 15 (f := .glo "_law_told") rfl), FLt.kp⟩
  have bLt : Binds K fdLt ["_law_world_here"] [] := FLt.binds fun _ _ _ _ _ _ us hl => match us, hl with | [_], _ => rfl
  obtain ⟨fdLo, FLo⟩ := fun_of c 16 (p := ("_law_odd", none)) (x := "_law_odd") (q := "_law_odd") (st := sOddL) rfl
  have cLo : Calls K mg "_law_odd" (He.ga K "_law_odd") := ⟨He.glo_ok X G (c.fact 16 (f := .glo "_law_odd") rfl), FLo.kp⟩
  have bLo : Binds K fdLo ["_law_source_here"] [] := FLo.binds fun _ _ _ _ _ _ us hl => match us, hl with | [_], _ => rfl
  obtain ⟨fdLe, FLe⟩ := fun_of c 17 (p := ("_law_bent", none)) (x := "_law_bent") (q := "_law_bent") (st := sBent) rfl
  have cLe : Calls K mg "_law_bent" (He.ga K "_law_bent") := ⟨He.glo_ok X G (c.fact 17 (f := .glo "_law_bent") rfl), FLe.kp⟩
  have bLe : Binds K fdLe ["_law_source_here", "_law_deed"] [] := FLe.binds fun _ _ _ _ _ _ us hl => match us, hl with | [_, _], _ => rfl
  obtain ⟨fdNi, FNi⟩ := fun_of c 18 (p := ("_law_is_name", none)) (x := "_law_is_name") (q := "_law_is_name") (st := sLIsName) rfl
  have cNi : Calls K mg "_law_is_name" (He.ga K "_law_is_name") := ⟨He.glo_ok X G (c.fact 18 (f := .glo "_law_is_name") rfl), FNi.kp⟩
  have bNi : Binds K fdNi ["_law_it"] [] := FNi.binds fun _ _ _ _ _ _ us hl => match us, hl with | [_], _ => rfl
  obtain ⟨fdRi, FRi⟩ := fun_of c 19 (p := ("_law_is_row", none)) (x := "_law_is_row") (q := "_law_is_row") (st := sLIsRow) rfl
  have cRi : Calls K mg "_law_is_row" (He.ga K "_law_is_row") := ⟨He.glo_ok X G (c.fact 19 (f := .glo "_law_is_row") rfl), FRi.kp⟩
  have bRi : Binds K fdRi ["_law_some", "_law_it"] [] := FRi.binds fun _ _ _ _ _ _ us hl => match us, hl with | [_, _], _ => rfl
  obtain ⟨fdCi, FCi⟩ := fun_of c 20 (p := ("_law_is_change", none)) (x := "_law_is_change") (q := "_law_is_change") (st := sIsChangeL) rfl
  have cCi : Calls K mg "_law_is_change" (He.ga K "_law_is_change") := ⟨He.glo_ok X G (c.fact 20 (f := .glo "_law_is_change") rfl), FCi.kp⟩
  have bCi : Binds K fdCi ["_law_world_here", "_law_it"] [] := FCi.binds fun _ _ _ _ _ _ us hl => match us, hl with | [_, _], _ => rfl
  obtain ⟨fdH, FH⟩ := fun_of c 21 (p := ("_law_heard", none)) (x := "_law_heard") (q := "_law_heard") (st := sHeard) rfl
  have cH : Calls K mg "_law_heard" (He.ga K "_law_heard") := ⟨He.glo_ok X G (c.fact 21 (f := .glo "_law_heard") rfl), FH.kp⟩
  have bH : Binds K fdH ["_law_store_here", "_law_it", "_law_by_name"] [] := FH.binds fun _ _ _ _ _ _ us hl => match us, hl with | [_, _, _], _ => rfl
  obtain ⟨fdN, FN⟩ := fun_of c 22 (p := ("_law_named", none)) (x := "_law_named") (q := "_law_named") (st := sNamedL) rfl
  have cN : Calls K mg "_law_named" (He.ga K "_law_named") := ⟨He.glo_ok X G (c.fact 22 (f := .glo "_law_named") rfl), FN.kp⟩
  have bN : Binds K fdN ["_law_store_here", "_law_it", "_law_way"] [] := FN.binds fun _ _ _ _ _ _ us hl => match us, hl with | [_, _, _], _ => rfl
  obtain ⟨fdNr, FNr⟩ := fun_of c 23 (p := ("_law_names_right", none)) (x := "_law_names_right") (q := "_law_names_right") (st := sNamesRight) rfl
  have cNr : Calls K mg "_law_names_right" (He.ga K "_law_names_right") := ⟨He.glo_ok X G (c.fact 23 (f := .glo "_law_names_right") rfl), FNr.kp⟩
  have bNr : Binds K fdNr ["_law_source_here", "_law_store_here", "_law_world_here"] [] := FNr.binds fun _ _ _ _ _ _ us hl => match us, hl with | [_, _, _], _ => rfl
  obtain ⟨fdCr, FCr⟩ := fun_of c 24 (p := ("_law_change_right", none)) (x := "_law_change_right") (q := "_law_change_right") (st := sChgRight) rfl
  have cCr : Calls K mg "_law_change_right" (He.ga K "_law_change_right") := ⟨He.glo_ok X G (c.fact 24 (f := .glo "_law_change_right") rfl), FCr.kp⟩
  have bCr : Binds K fdCr ["_law_store_here", "_law_world_here", "_law_it"] [] := FCr.binds fun _ _ _ _ _ _ us hl => match us, hl with | [_, _, _], _ => rfl
  obtain ⟨fdZ, FZ⟩ := fun_of c 25 (p := ("law", none)) (x := "law") (q := "law") (st := sLaw) rfl
  have cZ : Calls K mg "law" (He.ga K "law") := ⟨He.glo_ok X G (c.fact 25 (f := .glo "law") rfl), FZ.kp⟩
  have bZ : Binds K fdZ ["_law_script"] [] := FZ.binds fun _ _ _ _ _ _ us hl => match us, hl with | [_], _ => rfl
  obtain ⟨fdNu, FNu⟩ := fun_of c 26 (p := ("is_number", none)) (x := "is_number") (q := "is_number") (st := sIsNum) rfl
  have cNu : Calls K mg "is_number" (He.ga K "is_number") := ⟨He.glo_ok X G (c.fact 26 (f := .glo "is_number") rfl), FNu.kp⟩
  have bNu : Binds K fdNu ["thing"] [] := FNu.binds fun _ _ _ _ _ _ us hl => match us, hl with | [_], _ => rfl
  obtain ⟨fdNm, FNm⟩ := fun_of c 27 (p := ("is_name", none)) (x := "is_name") (q := "is_name") (st := sIsName) rfl
  have cNm : Calls K mg "is_name" (He.ga K "is_name") := ⟨He.glo_ok X G (c.fact 27 (f := .glo "is_name") rfl), FNm.kp⟩
  have bNm : Binds K fdNm ["thing"] [] := FNm.binds fun _ _ _ _ _ _ us hl => match us, hl with | [_], _ => rfl
  obtain ⟨fdCo, FCo⟩ := fun_of c 28 (p := ("_are_columns", none)) (x := "_are_columns") (q := "_are_columns") (st := sAreCols) rfl
  have cCo : Calls K mg "_are_columns" (He.ga K "_are_columns") := ⟨He.glo_ok X G (c.fact 28 (f := .glo "_are_columns") rfl), FCo.kp⟩
  have bCo : Binds K fdCo ["names", "numbers"] [] := FCo.binds fun _ _ _ _ _ _ us hl => match us, hl with | [_, _], _ => rfl
  obtain ⟨fdNs, FNs⟩ := fun_of c 29 (p := ("_are_names", none)) (x := "_are_names") (q := "_are_names") (st := sAreNames) rfl
  have cNs : Calls K mg "_are_names" (He.ga K "_are_names") := ⟨He.glo_ok X G (c.fact 29 (f := .glo "_are_names") rfl), FNs.kp⟩
  have bNs : Binds K fdNs ["thing"] [] := FNs.binds fun _ _ _ _ _ _ us hl => match us, hl with | [_], _ => rfl
  obtain ⟨fdKe, FKe⟩ := fun_of c 30 (p := ("_is_key", none)) (x := "_is_key") (q := "_is_key") (st := sIsKey) rfl
  have cKe : Calls K mg "_is_key" (He.ga K "_is_key") := ⟨He.glo_ok X G (c.fact 30 (f := .glo "_is_key") rfl), FKe.kp⟩
  have bKe : Binds K fdKe ["thing", "columns"] [] := FKe.binds fun _ _ _ _ _ _ us hl => match us, hl with | [_, _], _ => rfl
  obtain ⟨fdTn, FTn⟩ := fun_of c 31 (p := ("table_named", none)) (x := "table_named") (q := "table_named") (st := sNamed) rfl
  have cTn : Calls K mg "table_named" (He.ga K "table_named") := ⟨He.glo_ok X G (c.fact 31 (f := .glo "table_named") rfl), FTn.kp⟩
  have bTn : Binds K fdTn ["name", "tables"] [] := FTn.binds fun _ _ _ _ _ _ us hl => match us, hl with | [_, _], _ => rfl
  obtain ⟨fdTk, FTk⟩ := fun_of c 32 (p := ("_taken_and_put", none)) (x := "_taken_and_put") (q := "_taken_and_put") (st := sTaken) rfl
  have cTk : Calls K mg "_taken_and_put" (He.ga K "_taken_and_put") := ⟨He.glo_ok X G (c.fact 32 (f := .glo "_taken_and_put") rfl), FTk.kp⟩
  have bTk : Binds K fdTk ["change"] [] := FTk.binds fun _ _ _ _ _ _ us hl => match us, hl with | [_], _ => rfl
  obtain ⟨fdCl, FCl⟩ := fun_of c 33 (p := ("_clashes", none)) (x := "_clashes") (q := "_clashes") (st := sClashes) rfl
  have cCl : Calls K mg "_clashes" (He.ga K "_clashes") := ⟨He.glo_ok X G (c.fact 33 (f := .glo "_clashes") rfl), FCl.kp⟩
  have bCl : Binds K fdCl ["table", "row", "others"] [] := FCl.binds fun _ _ _ _ _ _ us hl => match us, hl with | [_, _, _], _ => rfl
  obtain ⟨fdPi, FPi⟩ := fun_of c 34 (p := ("is_possible_in", none)) (x := "is_possible_in") (q := "is_possible_in") (st := sPossIn) rfl
  have cPi : Calls K mg "is_possible_in" (He.ga K "is_possible_in") := ⟨He.glo_ok X G (c.fact 34 (f := .glo "is_possible_in") rfl), FPi.kp⟩
  have bPi : Binds K fdPi ["change", "table", "rows"] [] := FPi.binds fun _ _ _ _ _ _ us hl => match us, hl with | [_, _, _], _ => rfl
  obtain ⟨fdRa, FRa⟩ := fun_of c 35 (p := ("rows_after", none)) (x := "rows_after") (q := "rows_after") (st := sAfter) rfl
  have cRa : Calls K mg "rows_after" (He.ga K "rows_after") := ⟨He.glo_ok X G (c.fact 35 (f := .glo "rows_after") rfl), FRa.kp⟩
  have bRa : Binds K fdRa ["change", "rows"] [] := FRa.binds fun _ _ _ _ _ _ us hl => match us, hl with | [_, _], _ => rfl
  obtain ⟨fdPt, FPt⟩ := fun_of c 36 (p := ("changed_parts", none)) (x := "changed_parts") (q := "changed_parts") (st := sParts) rfl
  have cPt : Calls K mg "changed_parts" (He.ga K "changed_parts") := ⟨He.glo_ok X G (c.fact 36 (f := .glo "changed_parts") rfl), FPt.kp⟩
  have bPt : Binds K fdPt ["thing", "tables"] [] := FPt.binds fun _ _ _ _ _ _ us hl => match us, hl with | [_, _], _ => rfl
  obtain ⟨fdCf, FCf⟩ := fun_of c 37 (p := ("is_change_of", none)) (x := "is_change_of") (q := "is_change_of") (st := sChangeOf) rfl
  have cCf : Calls K mg "is_change_of" (He.ga K "is_change_of") := ⟨He.glo_ok X G (c.fact 37 (f := .glo "is_change_of") rfl), FCf.kp⟩
  have bCf : Binds K fdCf ["thing", "tables"] [] := FCf.binds fun _ _ _ _ _ _ us hl => match us, hl with | [_, _], _ => rfl
  obtain ⟨fdMr, FMr⟩ := fun_of c 38 (p := ("Table", some "is_row")) (x := "is_row") (q := "Table.is_row") (st := sIsRow) rfl
  have bMr : Binds K fdMr ["self", "thing"] [] := FMr.binds fun _ _ _ _ _ _ us hl => match us, hl with | [_, _], _ => rfl
  have mMr : Meth K (He.ga K "Table") "is_row" (He.ma K (He.ga K "Table") "is_row") := He.meth_ok (c.fact 77 (f := .meth "Table" "is_row") rfl)
  obtain ⟨fdMc, FMc⟩ := fun_of c 39 (p := ("Table", some "clash")) (x := "clash") (q := "Table.clash") (st := sClash) rfl
  have bMc : Binds K fdMc ["self", "one", "other"] [] := FMc.binds fun _ _ _ _ _ _ us hl => match us, hl with | [_, _, _], _ => rfl
  have mMc : Meth K (He.ga K "Table") "clash" (He.ma K (He.ga K "Table") "clash") := He.meth_ok (c.fact 78 (f := .meth "Table" "clash") rfl)
  obtain ⟨fdTo, FTo⟩ := fun_of c 40 (p := ("Store", some "table_of")) (x := "table_of") (q := "Store.table_of") (st := sTableOf) rfl
  have bTo : Binds K fdTo ["self", "name"] [] := FTo.binds fun _ _ _ _ _ _ us hl => match us, hl with | [_, _], _ => rfl
  have mTo : Meth K (He.ga K "Store") "table_of" (He.ma K (He.ga K "Store") "table_of") := He.meth_ok (c.fact 79 (f := .meth "Store" "table_of") rfl)
  obtain ⟨fdRo, FRo⟩ := fun_of c 41 (p := ("Store", some "rows_of")) (x := "rows_of") (q := "Store.rows_of") (st := sRowsOf) rfl
  have bRo : Binds K fdRo ["self", "name"] [] := FRo.binds fun _ _ _ _ _ _ us hl => match us, hl with | [_, _], _ => rfl
  have mRo : Meth K (He.ga K "Store") "rows_of" (He.ma K (He.ga K "Store") "rows_of") := He.meth_ok (c.fact 80 (f := .meth "Store" "rows_of") rfl)
  obtain ⟨fdIc, FIc⟩ := fun_of c 42 (p := ("Store", some "is_change")) (x := "is_change") (q := "Store.is_change") (st := sIsChange) rfl
  have bIc : Binds K fdIc ["self", "thing"] [] := FIc.binds fun _ _ _ _ _ _ us hl => match us, hl with | [_, _], _ => rfl
  have mIc : Meth K (He.ga K "Store") "is_change" (He.ma K (He.ga K "Store") "is_change") := He.meth_ok (c.fact 81 (f := .meth "Store" "is_change") rfl)
  obtain ⟨fdIp, FIp⟩ := fun_of c 43 (p := ("Store", some "is_possible")) (x := "is_possible") (q := "Store.is_possible") (st := sIsPossible) rfl
  have bIp : Binds K fdIp ["self", "change"] [] := FIp.binds fun _ _ _ _ _ _ us hl => match us, hl with | [_, _], _ => rfl
  have mIp : Meth K (He.ga K "Store") "is_possible" (He.ma K (He.ga K "Store") "is_possible") := He.meth_ok (c.fact 82 (f := .meth "Store" "is_possible") rfl)
  obtain ⟨fdXc, FXc⟩ := fun_of c 44 (p := ("InvalidChange", some "__init__")) (x := "__init__") (q := "InvalidChange.__init__") (st := Vk.sIC) rfl
  have bXc : Binds K fdXc ["self", "change"] [] := FXc.binds fun _ _ _ _ _ _ us hl => match us, hl with | [_, _], _ => rfl
  have mXc : Meth K (He.ga K "InvalidChange") "__init__" (He.ma K (He.ga K "InvalidChange") "__init__") := He.meth_ok (c.fact 83 (f := .meth "InvalidChange" "__init__") rfl)
  obtain ⟨fdXu, FXu⟩ := fun_of c 45 (p := ("UnknownTable", some "__init__")) (x := "__init__") (q := "UnknownTable.__init__") (st := Vk.sIU) rfl
  have bXu : Binds K fdXu ["self", "name"] [] := FXu.binds fun _ _ _ _ _ _ us hl => match us, hl with | [_, _], _ => rfl
  have mXu : Meth K (He.ga K "UnknownTable") "__init__" (He.ma K (He.ga K "UnknownTable") "__init__") := He.meth_ok (c.fact 84 (f := .meth "UnknownTable" "__init__") rfl)
  obtain ⟨fdDo, FDo⟩ := fun_of c 46 (p := ("Store", some "do")) (x := "do") (q := "Store.do") (st := sDo) rfl
  obtain ⟨fdSi, FSi⟩ := fun_of c 47 (p := ("Store", some "__init__")) (x := "__init__") (q := "Store.__init__") (st := sSInit) rfl
  have mDo : Meth K (aS K) "do" (He.ma K (aS K) "do") := He.meth_ok (c.fact 85 (f := .meth "Store" "do") rfl)
  obtain ⟨fdG, FG⟩ := fnAt_ok (x := "columns") (q := "Table.columns") (st := sColumns) eG z2
  have bG : Binds K fdG ["self"] [] := FG.binds fun _ _ _ _ _ _ us hl => match us, hl with | [_], _ => rfl
  have pp : PropOf K (aT K) "columns" (pA K) (gA K) := ⟨He.eqO_ok z3, of_decide_eq_true z4, of_decide_eq_true z5, recB_ok z6⟩
  obtain ⟨fdI, FI⟩ := He.DefD.funD (d := dInit) eI z1
  have FI : FunD K "__init__" "Table.__init__" (defArgs sInit) (defBody sInit) (defScope sInit) [.ref (d0 K), .ref (d1 K)] [] (He.ma K (aT K) "__init__") fdI := FI
  obtain ⟨ds0, v0, bI⟩ := FI.binds1 (ps := ["self", "name", "names", "numbers", "key"]) 5 2 (by simp) rfl fun T kV doc pm an cdv ct us its l1 l2 => match us, its, l1, l2 with | [_, _, _, _, _], [_, _], _, _ => ⟨_, rfl, rfl⟩
  cases v0
  have kIp : KBinds K fdIp ["self", "change"] ["change"] hw1 kwP := FIp.kb (fun _ _ _ _ _ _ us ws hl => match us, ws, hl with | [_], [_], _ => rfl) hw1_rel
  have kIc : KBinds K fdIc ["self", "thing"] ["thing"] hw1 kwP := FIc.kb (fun _ _ _ _ _ _ us ws hl => match us, ws, hl with | [_], [_], _ => rfl) hw1_rel
  have kTo : KBinds K fdTo ["self", "name"] ["name"] hw1 kwP := FTo.kb (fun _ _ _ _ _ _ us ws hl => match us, ws, hl with | [_], [_], _ => rfl) hw1_rel
  have kRo : KBinds K fdRo ["self", "name"] ["name"] hw1 kwP := FRo.kb (fun _ _ _ _ _ _ us ws hl => match us, ws, hl with | [_], [_], _ => rfl) hw1_rel
  have fr : ∀ {x : Str}, He.Fa.ok K (.free x) = true → mg x = none := fun c => He.free_ok X G c
  have TA : TxtA K mg := ⟨fr (c.fact 55 (f := .free "list") rfl), fr (c.fact 51 (f := .free "len") rfl), fr (c.fact 56 (f := .free "range") rfl), fr (c.fact 50 (f := .free "tuple") rfl)⟩
  have TL : TxtL K mg (He.ga K "_law_draw") (He.ga K "_law_pick") := ⟨TA, cD.g, cD.k, cP.g, cP.k⟩
  have TP : TxtP K mg (He.ga K "is_name") (He.ga K "_are_names") := ⟨fr (c.fact 46 (f := .free "isinstance") rfl), fr (c.fact 47 (f := .free "int") rfl), fr (c.fact 48 (f := .free "bool") rfl), fr (c.fact 49 (f := .free "str") rfl), fr (c.fact 50 (f := .free "tuple") rfl), fr (c.fact 51 (f := .free "len") rfl), fr (c.fact 52 (f := .free "all") rfl), fr (c.fact 54 (f := .free "set") rfl), He.int_ok X G (c.fact 65 (f := .int "_LONGEST_NAME" 8) rfl), He.int_ok X G (c.fact 66 (f := .int "_MOST_COLUMNS" 2) rfl), cNm.g, cNm.k, cNs.g, cNs.k⟩
  obtain ⟨x1, x2, x3, x4⟩ := He.exc_ok (c.fact 88 (f := .exc "InvalidTable") rfl)
  have gT := He.glo_ok X G (c.fact 38 (f := .glo "Table") rfl)
  have gS := He.glo_ok X G (c.fact 39 (f := .glo "Store") rfl)
  have gI := He.glo_ok X G (c.fact 40 (f := .glo "InvalidTable") rfl)
  have gTE := He.glo_ok X G (c.fact 41 (f := .glo "TurnError") rfl)
  have gX := He.glo_ok X G (c.fact 42 (f := .glo "InvalidChange") rfl)
  have gU := He.glo_ok X G (c.fact 43 (f := .glo "UnknownTable") rfl)
  have gUn := He.glo_ok X G (c.fact 44 (f := .glo "Unknown") rfl)
  have gL := He.glo_ok X G (c.fact 45 (f := .glo "_LENGTHS") rfl)
  have M := He.mkr_ok (c.fact 86 (f := .mkr "Table") rfl)
  have MS := He.mkr_ok (c.fact 87 (f := .mkr "Store") rfl)
  have TT : TxtT K mg (aT K) (aI K) (He.ga K "_are_columns") (He.ga K "_is_key") := ⟨He.cls_ok (c.fact 67 (f := .cls "Table") rfl), He.noat_ok (c.fact 69 (f := .noat "Table" "name") rfl), He.noat_ok (c.fact 70 (f := .noat "Table" "names") rfl), He.noat_ok (c.fact 71 (f := .noat "Table" "numbers") rfl), He.noat_ok (c.fact 72 (f := .noat "Table" "key") rfl), gT, gI, x2, x1, x3, x4, cCo.g, cCo.k, cKe.g, cKe.k⟩
  have TS : TxtS K mg (aS K) (He.ma K (aS K) "table_of") (He.ma K (aS K) "rows_of") (He.ma K (aS K) "is_change") (He.ma K (aS K) "is_possible") := ⟨He.cls_ok (c.fact 68 (f := .cls "Store") rfl), He.noat_ok (c.fact 73 (f := .noat "Store" "_tables") rfl), He.noat_ok (c.fact 74 (f := .noat "Store" "_rows") rfl), gS, mTo, mRo, mIc, mIp⟩
  have IO : IsO K (aT K) := ⟨of_decide_eq_true z7, of_decide_eq_true z8, of_decide_eq_true z9, of_decide_eq_true z10, of_decide_eq_true z11⟩
  have xX := Vk.xcB_ok z12
  have xU := Vk.xcB_ok z13
  have bX := Vk.baB_ok gTE z14
  have bU := Vk.baB_ok gUn z15
  have noX : PySem.W.findIn K (.ref (aX K)) "change" = some none := He.eqO_ok (c.fact 75 (f := .noat "InvalidChange" "change") rfl)
  have noU : PySem.W.findIn K (.ref (aU K)) "name" = some none := He.eqO_ok (c.fact 76 (f := .noat "UnknownTable" "name") rfl)
  have UX : XcT K mg "InvalidChange" (aX K) (He.ma K (aX K) "__init__") "ValueError.__new__" Vk.veT "change" := ⟨xX, mXc.at_, beq_iff_eq.mp mXc.fn, gX, noX⟩
  have UU : XcT K mg "UnknownTable" (aU K) (He.ma K (aU K) "__init__") "LookupError.__new__" Vk.keT "name" := ⟨xU, mXu.at_, beq_iff_eq.mp mXu.fn, gU, noU⟩
  have eX : ExcC K (aX K) := ⟨xX.ga, xX.gg, xX.exC, xX.hd, xX.ca, of_decide_eq_true z8, of_decide_eq_true z9, xX.mo⟩
  have eU : ExcC K (aU K) := ⟨xU.ga, xU.gg, xU.exC, xU.hd, xU.ca, of_decide_eq_true z8, of_decide_eq_true z9, xU.mo⟩
  have TH : TxtH K mg (aX K) (He.ga K "TurnError") := ⟨gTE, fr (c.fact 63 (f := .free "ValueError") rfl), gX, eX, noX, He.exm_ok (c.fact 89 (f := .exm "InvalidChange" "InvalidChange" true) rfl), of_decide_eq_true z16, of_decide_eq_true z17⟩
  have TN : TxtN K mg (aU K) (He.ga K "Unknown") (He.ga K "TurnError") := ⟨gUn, gTE, fr (c.fact 64 (f := .free "KeyError") rfl), gU, eU, noU, He.exm_ok (c.fact 90 (f := .exm "UnknownTable" "UnknownTable" true) rfl), of_decide_eq_true z18, of_decide_eq_true z19, of_decide_eq_true z20⟩
  have rp := fr (c.fact 57 (f := .free "repr") rfl)
  have en := fr (c.fact 58 (f := .free "enumerate") rfl)
  have an := fr (c.fact 53 (f := .free "any") rfl)
  have al := fr (c.fact 52 (f := .free "all") rfl)
  have tu := fr (c.fact 50 (f := .free "tuple") rfl)
  have so := fr (c.fact 62 (f := .free "sorted") rfl)
  have su := fr (c.fact 61 (f := .free "sum") rfl)
  have mi := fr (c.fact 59 (f := .free "min") rfl)
  have ma := fr (c.fact 60 (f := .free "max") rfl)
  have le := fr (c.fact 51 (f := .free "len") rfl)
  obtain ⟨es, en', KD⟩ := He.dicW_ok eD
  have lens := lens_ok z21
  obtain ⟨uM, cv⟩ := mostB_ok z22
  have cr : ClX.CRead K (aS K) (.type "type") := ⟨z23, of_decide_eq_true z⟩
  have hz : f = He.ga K "law" := by
    have e := hf.symm.trans cZ.g
    injection e with e
    injection e
  subst hz
  refine ⟨fdZ, fun s v => ?_, fun base kb nb => ?_⟩
  · obtain ⟨oc, od, kV, doc, pm, an, cdv, ct, osl, rfl, lk, hcd⟩ := FZ.ex
    exact .of_eq rfl
  have GS := ok_source (P := P) (w := w) (base := base) FS TA
  have GD := ok_draw (P := P) (w := w) (mg := mg) (base := base) FD
  have GP := ok_pick FP TL GD bD
  have GNm := ok_isname (P := P) (w := w) (base := base) FNm TP
  have GNu := ok_isnum (P := P) (w := w) (base := base) FNu TP
  have GNs := ok_arenames FNs TP GNm bNm
  have GCo := ok_arecols FCo TP GNs bNs
  have GKe := ok_iskey (P := P) (w := w) (base := base) FKe TP
  have GI := ok_init FI TP TT GNm bNm GCo bCo GKe bKe
  have GMr := ok_isrow FMr TP TT GNm bNm GNu cNu.g cNu.k bNu
  have GG := ok_columns (P := P) (w := w) (base := base) FG TT
  have GMc := ok_clash FMc TP TT en pp GG bG
  have GTn := ok_named (P := P) (w := w) (base := base) FTn TT
  have GTk := ok_taken (P := P) (w := w) (mg := mg) (base := base) FTk
  have GCl := ok_clashes FCl TT an mMc GMc bMc
  have GPi := ok_possin FPi an al cTk GTk bTk cCl GCl bCl
  have GRa := ok_after FRa tu so cTk GTk bTk
  have GPt := ok_parts FPt TP TT KD gL lens cTn GTn bTn
  have GCf := ok_changeof FCf TP TT cPt GPt bPt mMr GMr bMr
  have GXc := Vk.ok_initC (P := P) (w := w) (base := base) FXc xX bX noX
  have GXu := Vk.ok_initU (P := P) (w := w) (base := base) FXu xU bU noU
  have GTo := ok_tableof FTo TS cTn GTn bTn UU GXu bXu
  have GRo := ok_rowsof FRo TS TT GTo bTo
  have GIc := ok_ischange FIc TS cCf GCf bCf
  have GIp := ok_ispossible FIp TS GIc bIc GTo bTo GRo bRo cPi GPi bPi UX GXc bXc
  have GDo := ok_do FDo TS tu GIc bIc GRo bRo GIp bIp cRa GRa bRa UX GXc bXc
  have GSi := ok_sinit (P := P) (w := w) (base := base) FSi TP TT IO TS cr cv
  have GLc := ok_columnsl FLc TL GD bD GP bP
  have GLa := ok_args FLa TL mi ma GD bD cLc GLc bLc
  have GW := ok_world FW TL GD bD GP bP cLa GLa bLa
  have GLm := ok_madet FLm TT M GI bI
  have GLs := ok_storel FLs le TS MS cLm GLm bLm GSi
  have GLr := ok_rowl FLr TL GP bP
  have GLn := ok_near FLn TL GD bD GP bP cLr GLr bLr
  have GLk := ok_keyl (P := P) (w := w) (mg := mg) (base := base) FLk
  have GLb := ok_barred FLb cLk GLk bLk
  have GLp := ok_possl FLp cLb GLb bLb
  have GLh := ok_changel FLh TL su GD bD GP bP cLn GLn bLn
  have GLf := ok_follow FLf cLp GLp bLp
  have GLt := ok_told (P := P) (w := w) (base := base) FLt tu so
  have GLo := ok_odd FLo TL GP bP
  have GLe := ok_bent FLe TL GD bD GP bP cLo GLo bLo
  have GNi := ok_lisname (P := P) (w := w) (base := base) FNi TP
  have GRi := ok_lisrow FRi TP en cNi GNi bNi
  have GCi := ok_ischangel FCi TP cRi GRi bRi
  have GH := ok_heard FH TP rp TS TH GIp bIp kIp
  have GN := ok_namedl FN TP rp TS TT TN GTo bTo kTo GRo bRo kRo pp GG bG
  have GNr := ok_namesright FNr TL TP rp so cLo GLo bLo cN GN bN
  have GCr := ok_chgright FCr rp TS GIc bIc kIc cCi GCi bCi cLp GLp bLp cH GH bH
  exact ok_law FZ TL rp TS mDo GD bD GRo bRo GDo cS GS bS cW GW bW cLs GLs bLs cLh GLh bLh cLf GLf bLf cLt GLt bLt cCr GCr bCr cLe GLe bLe cNr GNr bNr
end
end Vm
open PySem PySem.W PyProof.Rows in
set_option maxRecDepth 100000 in
set_option maxHeartbeats 0 in
theorem PySem.Challenge.cw_whatturns_k03_changes_possible_or_not_holds : PySem.Challenge.rw_whatturns_k03_changes_possible_or_not.Holds := by
  w_on; o_law; k_head; (case hw => w_witness2)
  k_fill
  refine Vm.walkG (l := PySem.Challenge.rw_whatturns_k03_changes_possible_or_not) (n := 63) (k := 9) (x := "_law_script") (sp := Vm.spLaw) rfl (by decide) rfl ⟨rfl, by decide, by decide⟩ (fun w h Y => PySem.W.kIn_of Y) ?F (fun K H a ns short _ hS => ⟨a, ns, rfl, hS, short, fun _ => rfl⟩)
  case F =>
    intro w mg fa h KX G hmg
    refine Vm.all_of KX G ?says ?chk ?eI ?eG ?eD hmg
    case says =>
      show He.obsE Vm.faL Vm.fnL _ = He.valE Vm.fnL
      kernel_rfl
    case chk => kernel_rfl
    case eI => kernel_rfl
    case eG => kernel_rfl
    case eD => kernel_rfl
