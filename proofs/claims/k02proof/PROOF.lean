import PyProof.Rows.All
import Wide.All
import OpenK.AllK
import Wide.FinOn
import HandS.ForMost
import HandS.Conv
import HandS.More
import HandS.TupAny
import HandS.Style
import HandS.ExcOwn
import PySem.Challenge.RW_whatturns_k02_tables_rows_and_clashes
import HandS.IsInst
import HandS.StrMore
import KE.KEqDict
import PyProof.Rows.SetObj
import HandS.Base
import HandS.Call
import HandS.List
import HandS.Strs
import HandS.ForExc
import HandS.Defaults
import HandS.ExcInit
import HandS.ExcValue
import HandS.ExcIs
import HandS.TryMany
import KE.GoesMore
import PyProof.EnumMake
import PyProof.EnumFor
import PyProof.Draws
import HandS.Iter
import HandS.Walk
import HandS.Property
import HandS.OwnEq
import HandS.Text
import PyProof.InstNe
import KE.KExcIs
import HandS.MakeKw
import HandS.MakeKwOnly
import HandS.WordsExc
import PyProof.NeKinds
import HandS.HeadHook1
import HandS.HeadHook2
set_option Elab.async false
set_option linter.all false
set_option maxRecDepth 100000
set_option maxHeartbeats 8000000
/-! tuples that are made here: their objects have no dict -/
namespace Vm
open PySem PySem.Spec PyProof.Rows L2 HT
section
variable {prog : Program} {w : World} {A : Around} {E : Value → Shared → Prop} {s : Shared}
theorem places_rev (n : Nat) : Builtin.Slice.sliceAdjust none none (-1) (n : Int) = ((n : Int) - 1, -1) ∧ Builtin.Slice.slicePlaces ((n : Int) - 1) (-1) (-1) = n := by
  refine ⟨rfl, ?_⟩
  unfold Builtin.Slice.slicePlaces
  rw [if_neg (by decide)]
  by_cases h : ((n : Int) - 1) > -1
  · rw [if_pos h]
    have : (((n : Int) - 1 - -1 - 1) / (- -1) + 1) = (n : Int) := by
      rw [show (- -1 : Int) = 1 by rfl, Int.ediv_one]
      omega
    rw [this]
    rfl
  · rw [if_neg h]
    have : n = 0 := by omega
    rw [this]
    rfl
theorem pick_rev (xs : Array Value) : ((List.range xs.size).filterMap fun (m : Nat) => xs[(((xs.size : Int) - 1) + (m : Int) * (-1)).toNat]?).toArray = xs.toList.reverse.toArray := by
  congr 1
  have h : ∀ k, k ≤ xs.size → ((List.range k).filterMap fun (m : Nat) => xs[(((xs.size : Int) - 1) + (m : Int) * (-1)).toNat]?) = (xs.toList.drop (xs.size - k)).reverse := by
    intro k
    induction k with
    | zero =>
      intro _
      rw [List.range_zero, List.drop_of_length_le (by rw [Array.length_toList]; omega)]
      rfl
    | succ k ih =>
      intro hk
      rw [List.range_succ, List.filterMap_append, ih (by omega)]
      have e : (((xs.size : Int) - 1) + (k : Int) * (-1)).toNat = xs.size - (k + 1) := by omega
      have lt : xs.size - (k + 1) < xs.size := by omega
      have e2 : xs.toList.drop (xs.size - (k + 1)) = xs.toList[xs.size - (k + 1)]'(by rw [Array.length_toList]; exact lt) :: xs.toList.drop (xs.size - k) := by
        have z := List.drop_eq_getElem_cons (l := xs.toList) (i := xs.size - (k + 1)) (by rw [Array.length_toList]; exact lt)
        rw [z]
        congr 2
        omega
      rw [e2, List.reverse_cons]
      congr 1
      simp only [List.filterMap_cons, List.filterMap_nil, e, Array.getElem?_eq_getElem lt]
      rfl
  have z := h xs.size (Nat.le_refl _)
  rw [z, Nat.sub_self, List.drop_zero]
theorem sliceApplied_rev {sl : Addr} {vl vu vs : Value} {n : Nat} {Q : Int × Int × Nat → Shared → Prop} (hs : s.heap.IsSliceOf sl vl vu vs) (pl : IsPart vl none) (pu : IsPart vu none) (ps : IsPart vs (some (-1)))
    (h : Q ((n : Int) - 1, -1, n) s) : wpAny (model prog w) A (Builtin.Slice.sliceApplied (.ref sl) (pure (n : Int))) Q E s := by
  obtain ⟨os, hos, hcs, hds⟩ := id hs
  unfold Builtin.Slice.sliceApplied Builtin.Slice.sliceFields
  refine wpAny_bind (wpAny_bind (wpAny_field hos hds (x := vl) rfl (wpAny_bind (wpAny_field hos hds (x := vu) rfl (wpAny_bind (wpAny_field hos hds (x := vs) rfl (wpAny_pure ?_)))))))
  refine wpAny_bind (slicePart_ ps ?_)
  show wpAny _ _ (if ((-1 : Int) == 0) = true then _ else _) _ _ s
  rw [if_neg (by decide)]
  refine wpAny_bind (slicePart_ pl (wpAny_bind (slicePart_ pu (wpAny_bind (wpAny_pure ?_)))))
  show wpAny _ _ (match Builtin.Slice.sliceAdjust none none (-1) (n : Int) with | (lo, hi) => pure (lo, (-1 : Int), Builtin.Slice.slicePlaces lo hi (-1))) _ _ s
  rw [(places_rev n).1]
  show wpAny _ _ (pure ((n : Int) - 1, (-1 : Int), Builtin.Slice.slicePlaces ((n : Int) - 1) (-1) (-1))) _ _ s
  rw [(places_rev n).2]
  exact wpAny_pure h
theorem getItem_tuple_rev {t sl : Addr} {items : Array Value} {vl vu vs : Value} {Q : Value → Shared → Prop} (ht : IsTup s.heap t items) (hs : s.heap.IsSliceOf sl vl vu vs) (pl : IsPart vl none) (pu : IsPart vu none) (ps : IsPart vs (some (-1)))
    (h : Q (.ref s.heap.objs.size) { s with heap := s.heap.push { cls := .type "tuple", data := .seq items.toList.reverse.toArray } })
    (hsz : items.size ≤ sizeLine) : wpAny (model prog w) A (getItem (.ref t) (.ref sl)) Q E s := by
  have htake : sizeOk (.seq items.toList.reverse.toArray) := by
    show items.toList.reverse.toArray.size ≤ sizeLine
    rw [List.size_toArray, List.length_reverse, Array.length_toList]
    exact hsz
  obtain ⟨os, hos, hcs, hds⟩ := id hs
  have hTs : s.TypeIs (.ref sl) "slice" := ⟨os, hos, hcs⟩
  unfold getItem
  try with_reducible refine wpAny_holding ?_
  first | refine wpAny_bind (wpAny_pure ?_) | skip
  refine wpAny_bind (wpAny_sequenceKey ht.typeIs (by decide) ?_)
  refine wpAny_bind (wpAny_callSpecial?_slot (name := Str.ofString "__getitem__") ht.typeIs PyProof.Rows.slot_tuple_getitem
    (wpAny_call_entry PyProof.Rows.slot_tuple_getitem ht.typeIs entry_tuple_getitem ?_ (args_tuple_getitem _ _)))
  show wpAny _ _ (Builtin.Tuple.tupleItemsOf (.ref t) >>= _) _ _ s
  refine wpAny_bind (tupleItemsOf_ ht ?_)
  refine wpAny_bind (wpAny_typeOf hTs ?_)
  rw [if_pos (by decide)]
  refine wpAny_bind (sliceApplied_rev hs pl pu ps ?_)
  have hno : ¬ (((((items.size : Int) - 1) == 0 && (-1 : Int) == 1 && items.size == items.size)) = true) := by
    intro q
    rw [Bool.and_eq_true, Bool.and_eq_true] at q
    exact absurd q.1.2 (by decide)
  show wpAny _ _ (if (((items.size : Int) - 1) == 0 && (-1 : Int) == 1 && items.size == items.size) = true then _ else _) _ _ s
  rw [if_neg hno, pick_rev]
  first
    | exact wpAny_bind (m := Builtin.Tuple.tupleExact _) (wpAny_newObj_type (wpAny_pure ⟨_, rfl, wpAny_pure h⟩) htake)
    | exact wpAny_bind (m := Builtin.Tuple.tupleExact _) (wpAny_newObj_type (wpAny_bind (wpAny_pure (wpAny_pure ⟨_, rfl, wpAny_pure h⟩))) htake)
    | exact wpAny_bind (wpAny_bind (m := Builtin.Tuple.tupleExact _) (wpAny_newObj_type (wpAny_pure (wpAny_pure ⟨_, rfl, wpAny_pure h⟩)) htake))
    | exact wpAny_bind (wpAny_bind (m := Builtin.Tuple.tupleExact _) (wpAny_newObj_type (wpAny_pure ⟨_, rfl, wpAny_pure h⟩) htake))
end
/-- a new tuple of these items is the value -/
def New (H : Hp) (xs : List V) (Q : VK) : Prop := ∀ (p : Addr) (o : Obj), H p = none → o.dict = none → Q (.ref p) (upd H p (.frz o (.tup xs)))
abbrev tobj (us : List Value) : Obj := { cls := .type "tuple", data := .seq us.toArray }
section
variable {X : Cx} {pins : List (Addr × Obj)} {σ : L2.St} {H : Hp} {s : Shared} {Q : VK}
/-- its object is laid behind the heap -/
theorem New.laid {xs : List V} {us : List Value} (q : New H xs Q) (I : Inv X pins σ H s) (r : Vals xs us) (few : xs.length ≤ sizeLine) : EP X pins σ Q (.ref s.heap.objs.size) { s with heap := s.heap.push (tobj us) } := by
  have at_ : (s.heap.push (tobj us)).get? s.heap.objs.size = some (tobj us) := Heap.get?_push_size _ rfl
  have ok : ObjOk X.prog X.w (upd H s.heap.objs.size (.frz (tobj us) (.tup xs))) (s.heap.push (tobj us)) s.heap.objs.size (.frz (tobj us) (.tup xs)) := ⟨at_, few, us, r, _, at_, rfl, _, rfl⟩
  have free : H s.heap.objs.size = none := I.hok.fresh (Nat.le_refl _)
  refine ⟨.ref s.heap.objs.size, _, I.laid (o := .frz (tobj us) (.tup xs)) (t' := s.toks) (fun c u e => ?_) (Nat.le_refl _) ok, rfl, q _ _ free rfl⟩
  exact Heap.get?_push_of_some (tobj us) e
theorem vals_few {xs : List V} {us : List Value} (r : Vals xs us) {n : Nat} (h : xs.length ≤ n) : us.toArray.size ≤ n := by
  rw [List.size_toArray, ← r.length]
  exact h
def tTupF (t : TA) : TE := fun σ H Q => t σ H fun xs H1 => xs.length ≤ sizeLine ∧ New H1 xs Q
theorem pe_tupF {es : List Expr} {t : TA} {pos : Pos} {x1} (h : PA X es t) : PE X (.Tuple es x1 pos) (tTupF t) := by
  constructor
  intro pins s σ H Q I want
  refine wpAny_Tuple_spliced (thn (h.run pos pins s σ H _ I want) ?_)
  rintro us s1 ⟨xs, H1, I1, r, few, q⟩
  exact ⟨r.length ▸ few, q.laid I1 r few⟩
/-- tuple(list) -/
theorem call_tupleF : CallR X (.type "tuple") (fun xs H Q => ∃ p ys, xs = [.ref p] ∧ SqL X.K H p ys ∧ New H ys Q) := by
  rintro pins s σ H xs us Q I rel ⟨p, ys, rfl, hq, q⟩
  obtain ⟨u, rfl, e⟩ := vals1 rel
  cases e
  obtain ⟨its, r, pl, few⟩ := I.list hq
  exact call_tuple_list pl.isList (fun h' kp => q.laid (s := { s with heap := h' }) (I.kept (t' := s.toks) kp) r few) (vals_few r few)
/-- t + u -/
def rCatF (K : PySem.W.Frag) : R2 := fun x y H Q => ∃ a b xs ys, x = .ref a ∧ y = .ref b ∧ SqT K H a xs ∧ SqT K H b ys ∧ xs.length + ys.length ≤ sizeLine ∧
  (xs = [] → Q (.ref b) H) ∧ (xs ≠ [] → ys = [] → Q (.ref a) H) ∧ (xs ≠ [] → ys ≠ [] → New H (xs ++ ys) Q)
theorem op_catF : OpR X (binaryOp .Add) (rCatF X.K) := by
  rintro pins s σ H x y v u Q I rx ry ⟨a, b, xs, ys, rfl, rfl, ha, hb, few, left, right, both⟩
  cases rx
  cases ry
  obtain ⟨its, r, ta, _⟩ := I.tuple ha
  obtain ⟨its2, r2, tb, _⟩ := I.tuple hb
  have none_iff := r2.nil_iff
  cases xs with
  | nil =>
    cases r
    exact cat_tup0 ta tb ⟨.ref b, H, I, rfl, left rfl⟩
  | cons y0 xs =>
    have some_ : y0 :: xs ≠ [] := List.cons_ne_nil _ _
    refine HT.cat_tup ta tb (fun e => some_ (r.nil_iff.mp e)) (fun e => ⟨.ref a, H, I, rfl, right some_ (none_iff.mp e)⟩) (fun e => ?_) ?_
    · exact (both some_ fun z => e (none_iff.mpr z)).laid I (r.append r2) (by rw [List.length_append]; exact few)
    · rw [← r.length, ← r2.length]
      exact few
/-- t[lo:hi] -/
def rSlF (K : PySem.W.Frag) : V → Option Int → Option Int → Hp → VK → Prop := fun x lo hi H Q => ∃ a xs, x = .ref a ∧ SqT K H a xs ∧
  (HT.sIx xs.length 0 lo = 0 ∧ HT.sIx xs.length xs.length hi = xs.length → Q (.ref a) H) ∧ New H (cutV xs lo hi) Q
theorem sl_tupF : SlR X (rSlF X.K) := by
  rintro pins s σ H x v vl vu lo hi sl Q I rx sliced pl pu ⟨a, xs, rfl, hx, whole, q⟩
  cases rx
  obtain ⟨its, r, ht, few⟩ := I.tuple hx
  have size : its.toArray.size = xs.length := by rw [List.size_toArray, r.length]
  refine ⟨"tuple", _, PyProof.Rows.slot_tuple_getitem.lookup, ht.typeIs, ?_⟩
  by_cases all : HT.sIx xs.length 0 lo = 0 ∧ HT.sIx xs.length xs.length hi = xs.length
  · exact getItem_tuple_whole ht sliced pl pu (size ▸ all) ⟨.ref a, H, I, rfl, whole all⟩
  · refine HT.getItem_tuple_cut ht sliced pl pu (size ▸ all) ?_ (size ▸ few)
    rw [size]
    exact q.laid I ((r.drop _).take _) (Nat.le_trans (cutV_length xs lo hi) few)
/-- t[::-1] -/
def tRevT (K : PySem.W.Frag) (te : TE) : TE := fun σ H Q => te σ H fun x H1 => ∃ a xs, x = .ref a ∧ SqT K H1 a xs ∧ New H1 xs.reverse Q
theorem pe_revT {e : Expr} {te : TE} {k : Nat} {p1 p2 p3 pos : Pos} (he : PE X e te) : PE X (.Subscript e (.Slice none none (some (.UnaryOp .USub (.Constant (.int 1) k p1) p2)) p3) pos) (tRevT X.K te) := by
  constructor
  intro pins s σ H Q I want
  refine Subscript_ (thn (he.run pins s σ H _ I want) ?_)
  rintro v s1 ⟨_, H1, I1, rel, a, xs, rfl, hx, q⟩
  cases rel
  have back : PO X (some (.UnaryOp .USub (.Constant (.int 1) k p1) p2)) (tPart (tUn (rU fun i => .int (-i)) (tC (.int 1)))) := po_some (pe_un un_neg pe_int)
  refine wpAny_Slice (thn (po_none.run pins s1 σ H1 (fun o G => o = none ∧ G = H1) I1 ⟨rfl, rfl⟩) ?_)
  rintro vl s2 ⟨_, _, I2, pl, rfl, rfl⟩
  refine thn (po_none.run pins s2 σ _ (fun o G => o = none ∧ G = _) I2 ⟨rfl, rfl⟩) ?_
  rintro vu s3 ⟨_, _, I3, pu, rfl, rfl⟩
  refine thn (back.run pins s3 σ _ (fun o G => o = some (-1) ∧ G = _) I3 ⟨1, rfl, -1, rfl, rfl, rfl⟩) ?_
  rintro vs s4 ⟨_, G, I4, ps, rfl, rfl⟩
  let sob : Obj := { cls := .type "slice", data := .fields #[vl, vu, vs] }
  have I5 : Inv X pins σ G { s4 with heap := s4.heap.push sob } := I4.kept (t' := s4.toks) fun _ _ z => Heap.get?_push_of_some sob z
  obtain ⟨its, r, ht, few⟩ := I5.tuple hx
  show wpAny (model X.prog X.w) X.A (subscriptTail e (.Slice none none (some (.UnaryOp .USub (.Constant (.int 1) k p1) p2)) p3) (.ref a) (.ref s4.heap.objs.size)) (EP X pins σ Q) X.xe { s4 with heap := s4.heap.push sob }
  refine tail_any (ops := [.ref a, .ref s4.heap.objs.size]) ht.typeIs PyProof.Rows.slot_tuple_getitem.lookup ?_ (by with_unfolding_all rfl)
  exact getItem_tuple_rev ht (Heap.IsSliceOf.new _ vl vu vs) pl pu ps (q.laid I5 r.reverse (by rw [List.length_reverse]; exact few)) (vals_few r few)
end
end Vm
namespace Vm
open PySem PySem.Spec PyProof.Rows L2
/-- a promise that may lean on: no repr is under way -/
structure FnG (P : Program) (w : World) (K : PySem.W.Frag) (mg : Str → Option Value) (base : Heap) (CX : CXT) (k : Nat) (f : Addr) (fd : FuncData) (ps : List Str) (sp : Sp) : Prop where
  lenG : ∀ vs H Q E, sp vs H Q E → vs.length = ps.length
  runG : ∀ (A : Around) (below : List Env) (s : Shared) (H : Hp) (gs : Args) (us : List Value) (vs : List V) (Q : VK) (E : XK), A.guards = some [] → Room k A → Env0 P w K mg base A below s H → BindsTo s fd gs (ps.zip us) → Vals vs us →
    sp vs H Q E → codeAny (model P w) A (.call (.ref f) gs) (CR CX below P w H s Q E) s
section
variable {P : Program} {w : World} {K : PySem.W.Frag} {mg : Str → Option Value} {base : Heap}
theorem okG {CX : CXT} {x qual : Str} {st : Stmt} {f : Addr} {fd : FuncData} {N ps : List Str} {k : Nat} {sp : Sp} (F : Fun K x qual st f fd) (S : FnScope N ps (defScope st)) (len : ∀ vs H Q E, sp vs H Q E → vs.length = ps.length)
    (hbody : ∀ (cdv : Value) (A : Around) (below : List Env) (s : Shared) (H : Hp) (vs : List V) (Q : VK) (E : XK), A.guards = some [] → Room k (A.deeper (envOfC qual (defScope st) s.heap.objs.size f cdv)) → sp vs H Q E →
      ∃ t, PSs (cxOf CX P w K mg base N qual (defScope st) f cdv A below s H E) (defBody st) t ∧ t { nx := fun _ H' => Q .non H', rt := Q } (start N vs) H) : FnG P w K mg base CX (k + 1) f fd ps sp := by
  obtain ⟨oc, od, kV, doc, pm, an, cdv, ct, osl, rfl, lk, hcd⟩ := F.ex
  constructor
  · exact len
  intro A below s H gs us vs Q E ag room z bd rel want
  have KX : K.In s.heap := z.mod.kin.keeps fun b o e => (z.bs b o e).1
  have calm : s.heap.NoLimit := z.mod.nolimit.keeps fun b o e => (z.bs b o e).1
  have kinds : ∀ y ∈ ps.zip us, (defScope st).names.lookup y.1 = some .local ∨ ((defScope st).names.lookup y.1 = some .cell ∧ ((cellsFrom (s.heap.objs.size + 1) (defScope st).names []).lookup y.1).isSome = true) := by
    rintro ⟨n, v⟩ hy
    exact (S.par n (List.of_mem_zip hy).1).imp id fun q => ⟨q, PySem.W.cellsFrom_some _ _ _ (.inl q)⟩
  refine codeAny_call_function room.depth (KX _ _ lk) rfl S.co S.gen rfl (PySem.W.codeRec_of KX hcd) (bd _ _ _ _ ?_)
  refine wpAny_newFunctionEnv_cells S.kind kinds fun env same s1 x => ?_
  cases same
  refine ⟨calm.keeps x.toInCall.keep, codeAny_func ?_⟩
  obtain ⟨t, ht, go⟩ := hbody cdv A below s H vs Q E ag (room.deeper _) want
  have J := inv_start (CX := CX) (E := E) (P := P) (w := w) (K := K) (mg := mg) S room.hd z (len _ _ _ _ want) rel x
  refine wpAny_mono (ht.run [] s1 (start N vs) H _ J go) (fun fl s' got => ?_) fun _ _ got => got
  cases fl with
  | ret u => exact let ⟨v, _, H', J', rv, q⟩ := got; ⟨v, H', J'.os, J'.bare, J'.base, J'.hok, rv, q⟩
  | next => exact let ⟨_, H', J', q⟩ := got; ⟨.non, H', J'.os, J'.bare, J'.base, J'.hok, rfl, q⟩
  | brk => exact (let ⟨_, _, _, q⟩ := got; q : False).elim
  | cont => exact (let ⟨_, _, _, q⟩ := got; q : False).elim
theorem okG0 {x qual : Str} {st : Stmt} {f : Addr} {fd : FuncData} {N ps : List Str} {k : Nat} {sp : Sp} (F : Fun K x qual st f fd) (S : FnScope N ps (defScope st)) (len : ∀ vs H Q E, sp vs H Q E → vs.length = ps.length)
    (hbody : ∀ (cdv : Value) (A : Around) (below : List Env) (s : Shared) (H : Hp) (vs : List V) (Q : VK) (E : XK), A.guards = some [] → Room k (A.deeper (envOfC qual (defScope st) s.heap.objs.size f cdv)) → sp vs H Q E →
      ∃ t, PSs (cxOf CX0 P w K mg base N qual (defScope st) f cdv A below s H E).nox (defBody st) t ∧ t { nx := fun _ H' => Q .non H', rt := Q } (start N vs) H) : FnG P w K mg base CX0 (k + 1) f fd ps sp :=
  okG F S len fun cdv A below s H vs Q E ag room want => (hbody cdv A below s H vs Q E ag room want).imp fun t h => ⟨h.1.nox, h.2⟩
end
section
variable {X : Cx} {CX : CXT} {k : Nat} {f : Addr} {fd : FuncData} {ps : List Str} {sp : Sp} {x : Str} {p pos : Pos} {e : Expr} {es : List Expr} {t : TA}
theorem pe_callG (F : FnG X.prog X.w X.K X.mg X.base CX0 k f fd ps sp) (ag : X.A.guards = some []) (room : Room k X.A) (hg : Gl X x) (hm : X.mg x = some (.ref f)) (hk : PySem.W.keepIn X.K (.ref f) = true) (hb : Binds X.K fd ps [])
    (ha : PA X (e :: es) t) (nd : (x == ("__debug__" : Str)) = false := by decide) (one : starEach (e :: es) X.env = (false, eval e X.env) :: starEach es X.env := by rfl) (plain : (backTo pos (starEach es X.env)).any (·.1) = false := by rfl) :
    PE X (.Call (.Name x p) (e :: es) [] pos) (tCall sp [] E0 t) := by
  constructor
  intro pins s σ H Q I h
  refine wpAny_Call_Name_kw (ld_glob I hg hm (PySem.W.callWith_K (h₀ := X.base) I.ok.mod.kin hk (thn (ha.run pos pins s σ H _ I h) ?_) one plain) nd)
  rintro us s1 ⟨vs, H1, I1, rel, want⟩
  rw [List.append_nil] at want
  refine ⟨I1.kIn, wpAny_call (codeAny_mono (F.runG X.A X.stack s1 H1 ⟨us, []⟩ us vs Q E0 ag room I1.env0 ?_ rel want) ?_)⟩
  · have z := hb s1 us I1.kIn (by rw [List.append_nil, ← rel.length]; exact F.lenG _ _ _ _ want)
    rwa [List.append_nil] at z
  · intro r s' got
    match r, got with
    | .ok (.ret u), got => exact I1.after got
end
/-- the call of the law itself -/
theorem law_callG {P : Program} {w : World} {K : PySem.W.Frag} {mg mb : Str → Option Value} {k : Nat} {fa a : Addr} {fd : FuncData} {x : Str} {sp : Sp} {s₁ : Shared} {vs : List Value} {ns : List Int}
    (KX : K.In s₁.heap) (hns : s₁.heap.Ns mainGlobals mg) (hb : s₁.heap.Ns builtinsNs mb) (hbb : ∀ x : Str, x ≠ "__name__" → mb x = bootBuiltins x) (hlim : s₁.heap.NoLimit) (hg : s₁.gens = #[])
    (ha : s₁.heap.get? a = some { cls := .type "list", data := .seq vs.toArray }) (hi : IntsAre vs ns) (hl : ns.length ≤ sizeLine) (room : Room k callerA)
    (F : ∀ base : Heap, K.In base → base.Ns mainGlobals mg → FnG P w K mg base CX0 k fa fd [x] sp) (bd : ∀ (s : Shared) (u : Value), BindsTo s fd ⟨[u], []⟩ [(x, u)])
    (want : ∀ H : Hp, Only H → SqL K H a (ns.map V.int) → sp [.ref a] H (fun v _ => v = .bl true) fun _ _ _ => False) :
    codeAny (model P w) callerA (.call (.ref fa) ⟨[.ref a], []⟩) (fun r s' => r = .ok (.ret (.bool true)) ∧ OldK s₁.heap s'.heap ∧ s'.os = s₁.os ∧ AllBare s'.gens) s₁ := by
  have key : ∀ H : Hp, (∀ b u, H b = some u → b = a ∧ K.lookup a = none ∧ ∃ o xs, u = .frz o (.lst xs)) → SqL K H a (ns.map V.int) → HOk P w H s₁.heap →
      codeAny (model P w) callerA (.call (.ref fa) ⟨[.ref a], []⟩) (fun r s' => r = .ok (.ret (.bool true)) ∧ OldK s₁.heap s'.heap ∧ s'.os = s₁.os ∧ AllBare s'.gens) s₁ := by
    intro H own hS hok
    have nonev : ∀ {b : Addr}, (∀ u, H b ≠ some u) → H b = none := fun {b} n => by
      cases q : H b with
      | none => rfl
      | some u => exact absurd q (n u)
    have only : Only H := fun b => by
      cases q : H b with
      | none => exact .inl rfl
      | some u => exact let ⟨_, _, o, xs, e⟩ := own b u q; .inr ⟨o, xs, by rw [e]⟩
    have space : ∀ {b : Addr} {m : Str → Option Value}, s₁.heap.Ns b m → (hidT s₁.heap H).Ns b m := by
      rintro b m ⟨o, es, ep, e, d, r⟩
      refine ⟨o, es, ep, hidT_get e (nonev fun u z => ?_), d, r⟩
      rw [(own b u z).1, ha] at e
      cases e
      cases d
    have kb : K.In (hidT s₁.heap H) := fun b o e => hidT_get (KX b o e) (nonev fun u z => by
      obtain ⟨rfl, q, _⟩ := own b u z
      rw [q] at e
      cases e)
    obtain ⟨mc, c1, c2⟩ := hlim
    have z0 : Env0 P w K mg (hidT s₁.heap H) callerA [] s₁ H :=
      { frames := rfl, mod := ⟨kb, space hns, ⟨mb, space hb, hbb⟩, ⟨mc, space c1, c2⟩⟩, bs := fun b o e => of_hidT e, bsz := Nat.le_of_eq (hidT_size _ _), funs := trivial, frf := fun b hb => absurd (show b ∈ ([] : List Addr) from hb) (by simp), hok := hok, bare := .of_eq hg }
    refine codeAny_mono ((F _ kb (space hns)).runG callerA [] s₁ H ⟨[.ref a], []⟩ [.ref a] [.ref a] _ _ rfl room z0 (bd s₁ (.ref a)) (.cons rfl .nil) (want H only hS)) ?_
    intro r s' got
    match r, got with
    | .ok (.ret u), got =>
      obtain ⟨v, H', os, bare, un, hok', rv, ev⟩ := got
      have ev' : v = .bl true := ev
      subst ev'
      obtain rfl : u = Value.bool true := rv
      refine ⟨rfl, OldK.of_keep fun b o e => ?_, os, bare⟩
      cases q : H b with
      | none => exact un.keep b o e q (fun z => nomatch (show b ∈ ([] : List Addr) from z)) (by simp)
      | some u =>
        obtain ⟨_, _, ob, xs, rfl⟩ := own b u q
        have e1 := (hok b _ q).1
        rw [e] at e1
        cases e1
        exact (hok' b _ (un.frzs b o _ q)).1
  have rel := vals_ints hi
  cases lk : K.lookup a with
  | some o =>
    have e := KX a o lk
    rw [ha] at e
    cases e
    exact key (fun _ => none) (fun b u z => nomatch (show (none : Option HO) = some u from z)) (.inr ⟨_, vs.toArray, _, lk, rfl, rfl, rfl, by rw [List.size_toArray, hi.length]; exact hl, by simpa using rel⟩) (fun b u z => nomatch (show (none : Option HO) = some u from z))
  | none =>
    have at_a : ∀ {b : Addr} {u : HO}, (if b = a then some (HO.frz { cls := .type "list", data := .seq vs.toArray } (.lst (ns.map V.int))) else none) = some u → b = a ∧ u = .frz { cls := .type "list", data := .seq vs.toArray } (.lst (ns.map V.int)) := fun {b u} z => by
      split at z
      · rename_i e
        exact ⟨e, (Option.some.inj z).symm⟩
      · cases z
    refine key (fun b => if b = a then some (.frz { cls := .type "list", data := .seq vs.toArray } (.lst (ns.map V.int))) else none) (fun b u z => ⟨(at_a z).1, lk, _, _, (at_a z).2⟩) (.inl (.inr ⟨_, if_pos rfl⟩)) (fun b u z => ?_)
    obtain ⟨rfl, rfl⟩ := at_a z
    exact ⟨ha, by rw [List.length_map]; exact hl, vs, _, rel, ha⟩
theorem walkG {l : PySem.W.OpenLaw} {n k : Nat} {q : Program} {loose : List Str} {XP : (Str → Option Value) → Heap → Prop} {YP : World → Heap → Prop} {d : DefRec} {K : Params → PySem.W.Frag} {sp : PySem.W.Frag → Sp} {x : Str}
    (most : l.most = some n) (n0 : n ≤ sizeLine) (nodef : d.params.defaults = []) (room : Room k callerA) (inY : ∀ (w : World) (h : Heap), YP w h → (K w.params).In h)
    (F : ∀ (w : World) (mg : Str → Option Value) (fa : Addr) (h : Heap), (K w.params).In h → h.Ns mainGlobals mg → mg d.name = some (.ref fa) →
      ∃ fd : FuncData, (∀ (s : Shared) (u : Value), BindsTo s fd ⟨[u], []⟩ [(x, u)]) ∧ ∀ base : Heap, (K w.params).In base → base.Ns mainGlobals mg → FnG l.prog w (K w.params) mg base CX0 k fa fd [x] (sp (K w.params)))
    (want : ∀ (K : PySem.W.Frag) (H : Hp) (a : Addr) (ns : List Int), ns.length ≤ n → Only H → SqL K H a (ns.map V.int) → sp K [.ref a] H (fun v _ => v = .bl true) fun _ _ _ => False) :
    PySem.W.WalkO q loose XP YP l.row.toRowW d [] (fun f vs => PySem.call f vs) := by
  refine Att.attach_call most nodef ?_
  intro w s₀ s₁ mg mb fa o pm cd doc a vs ns G Y _ _ _ hmg hobj wh short gens
  have KX := inY w _ Y
  obtain ⟨fd, bd, ok⟩ := F w mg fa _ KX G.T.g hmg
  exact law_callG KX G.T.g G.T.b G.T.builtins G.T.nolimit gens hobj wh (Nat.le_trans short n0) room ok bd fun H o hS => want (K w.params) H a ns short o hS
end Vm
namespace Vm
open PySem L2
/-! the text by places -/
def top (i : Nat) : Stmt := PySem.Challenge.pw_whatturns_k02_tables_rows_and_clashes.main.body.getD i (.Pass ⟨0, 0, 0, 0⟩)
abbrev sSource : Stmt := top 14
abbrev sDraw : Stmt := top 15
abbrev sPick : Stmt := top 16
/-- a source of draws stands at s: its list of numbers at l, the stirred number z, the count b -/
structure Src (H : Hp) (s l : Addr) (ms : List Int) (z b : Int) : Prop where
  hs : H s = some (.lst [.ref l, .int z, .int b])
  hl : H l = some (.lst (ms.map V.int))
  len : ms.length ≤ 63
theorem Src.ne {H : Hp} {s l : Addr} {ms : List Int} {z b : Int} (h : Src H s l ms z b) : s ≠ l := by
  intro e
  have h1 := h.hs
  rw [e, h.hl] at h1
  have h2 := Option.some.inj h1
  injection h2 with h3
  cases ms with
  | nil => cases h3
  | cons m r => 
    injection h3 with h4 _
    cases h4
/-- all but the source's two objects stands as before -/
def But (s l : Addr) (H H' : Hp) : Prop := ∀ b o, b ≠ s → b ≠ l → H b = some o → H' b = some o
theorem But.trans {s l : Addr} {H H1 H2 : Hp} (h1 : But s l H H1) (h2 : But s l H1 H2) : But s l H H2 :=
  fun b o n1 n2 e => h2 b o n1 n2 (h1 b o n1 n2 e)
theorem But.of_same {s l : Addr} {H H' : Hp} (h : Same H H') : But s l H H' := fun b o _ _ e => h b o e

def spSource (K : PySem.W.Frag) : Sp := fun vs H Q _ => ∃ (a : Addr) (ns : List Int), vs = [.ref a] ∧ SqL K H a (ns.map V.int) ∧ ns.length ≤ 63 ∧
  ∀ (H' : Hp) (s l : Addr) (ms : List Int) (z : Int), Same H H' → H s = none → H l = none → Src H' s l ms z 0 → Q (.ref s) H'
/-- one draw below many -/
def spDraw : Sp := fun vs H Q _ => ∃ (s l : Addr) (ms : List Int) (z b m : Int), vs = [.ref s, .int m] ∧ Src H s l ms z b ∧ 0 < m ∧ m ≤ 1000000 ∧ 0 ≤ b ∧ b < 1000000 ∧
  ∀ (H' : Hp) (ms' : List Int) (r : Int), But s l H H' → Src H' s l ms' z (b + 1) → 0 ≤ r → r < m → Q (.int r) H'

structure TxtA (K : PySem.W.Frag) (mg : Str → Option Value) : Prop where
  list : mg "list" = none
  len : mg "len" = none
  range : mg "range" = none
  tuple : mg "tuple" = none

theorem cut60 (ns : List Int) : cutV (ns.map V.int) none (some 60) = (ns.take 60).map V.int := by
  have e : HT.sIx (ns.map V.int).length (ns.map V.int).length (some 60) = min 60 ns.length := by
    have q := HT.sIx_nat (ns.map V.int).length (ns.map V.int).length 60
    rw [List.length_map] at q ⊢
    exact q
  unfold cutV
  rw [e]
  show ((ns.map V.int).drop 0).take (min 60 ns.length - 0) = _
  rw [List.drop_zero, Nat.sub_zero, ← List.map_take, List.take_eq_take_iff.mpr]
  omega
theorem map_ix {ns : List Int} {i : Nat} {y : V} (h : (ns.map V.int)[i]? = some y) : ∃ u, y = V.int u := by
  rw [List.getElem?_map] at h
  cases e : ns[i]? with
  | none => rw [e] at h; cases h
  | some u => rw [e] at h; exact ⟨u, (Option.some.inj h).symm⟩

theorem dpInts (K : PySem.W.Frag) (H : Hp) : ∀ ms : List Int, DpAll K H (ms.map V.int) (ms.map PyData.int)
  | [] => .nil
  | m :: r => .cons (.int m) (dpInts K H r)
theorem Src.but {H H' : Hp} {s l : Addr} {ms : List Int} {z b : Int} (h : Src H s l ms z b) (k : Same H H') : Src H' s l ms z b := ⟨k _ _ h.hs, k _ _ h.hl, h.len⟩
theorem layInts : ∀ ms : List Int, PyData.canLayAll0 (ms.map PyData.int) = true
  | [] => rfl
  | m :: r => by
    have h := layInts r
    simp only [List.map_cons, PyData.canLayAll0, PyData.canLay0, h, Bool.and_self]
theorem depthInts : ∀ ms : List Int, PyData.depthAll (ms.map PyData.int) = 0
  | [] => rfl
  | m :: r => by
    have h := depthInts r
    simp only [List.map_cons, PyData.depthAll, PyData.depth, h, Nat.max_self]
theorem shapedInts (ms : List Int) : SeqAt.shaped (.list (ms.map PyData.int)) = true := by
  unfold SeqAt.shaped
  simp only [PyData.canLay0, layInts ms, PyData.depth, depthInts ms]
  rfl
theorem seq0 (n : Nat) : seqIndex? 0 (n + 1) = some 0 := (ixN_seq (n := n + 1) (i := 0) (j := 0) (by unfold ixN; rw [if_pos (by omega), if_pos (by omega)]; rfl)).1
theorem But.upd {s l a : Addr} {H H' : Hp} {o : HO} (h : But s l H H') (e : a = s ∨ a = l) : But s l H (upd H' a o) := fun b u n1 n2 q => by
  rw [upd_ne (fun z => by rcases e with e | e
                          · exact n1 (z.trans e)
                          · exact n2 (z.trans e))]
  exact h b u n1 n2 q
theorem But.fresh {s l a : Addr} {H H' : Hp} {o : HO} (h : But s l H H') (e : H' a = none) : But s l H (L2.upd H' a o) := fun b u n1 n2 q => by
  have q' := h b u n1 n2 q
  rw [upd_ne (ne_of_none q' e)]
  exact q'

section
variable {P : Program} {w : World} {K : PySem.W.Frag} {mg : Str → Option Value} {base : Heap}
theorem scSource : FnScope ["_law_script", "_law_stirred", "_law_cell"] ["_law_script"] (defScope sSource) := ⟨rfl, rfl, rfl, by decide +kernel, rfl, by decide +kernel, by decide +kernel⟩
theorem ok_source {f : Addr} {fd : FuncData} (F : Fun K "_law_source" "_law_source" sSource f fd) (T : TxtA K mg) : FnOk P w K mg base CX0 1 f fd ["_law_script"] (spSource K) := by
  refine F.ok scSource (fun vs H Q E h => ?_) (fun cdv A outer s H vs Q E hr h => ?_)
  · obtain ⟨a, ns, rfl, _⟩ := h
    rfl
  · obtain ⟨a, ns, rfl, hS, hlen, k⟩ := h
    refine ⟨_, pss_cons (ps_set (i := 1) scSource.nd rfl (Or.inl rfl) pe_int)
      (pss_cons (ps_for PassesOwn.never rfl (pi_list (pe_slice sl_list (pv 0) po_none (po_some pe_int))) (pg_name (i := 2) scSource.nd rfl (Or.inl rfl))
        (pss_one (ps_set (i := 1) scSource.nd rfl (Or.inl rfl) (pe_op op_mod (pe_op op_add (pe_op op_add (pe_op op_mul (pv 1) pe_int) (pe_op op_mod (pv 2) pe_int)) pe_int) pe_int))))
      (pss_one (ps_ret (pe_lst (pa_cons (pe_callTy call_list_of (by rfl) T.list (by decide +kernel) (pa_cons (pe_slice sl_list (pv 0) po_none (po_some pe_int)) pa_nil)) (pa_cons (pv 1) (pa_cons pe_int pa_nil))))))), ?_⟩
    refine ⟨_, rfl, _, rfl, a, _, rfl, hS, fun p hp => ?_⟩
    rw [cut60] 
    have s1 : Same H (upd H p (.lst ((ns.take 60).map V.int))) := fun b o e => by
      rw [upd_ne (ne_of_none e hp)]
      exact e
    refine ⟨p, rfl, ⟨_, SqL.of upd_same⟩, for_list (K := K) (a := p) (xs := (ns.take 60).map V.int) (fun i σ H' => ∃ (z : Int) (v : Option V), σ = [some (.ref a), some (.int z), v] ∧ Same H H' ∧ H' p = some (.lst ((ns.take 60).map V.int)))
      ⟨_, _, rfl, s1, upd_same⟩ (fun i σ H' _ ⟨_, _, _, _, e⟩ => SqL.of e) ?_ ?_⟩
    · rintro i y σ H' hi ⟨z, v, rfl, s2, e2⟩
      obtain ⟨u, rfl⟩ := map_ix hi
      refine ⟨_, rfl, _, _, rfl, rfl, .inr (by decide), _, rfl, _, _, rfl, rfl, (by show (0 : Int) < 2147483563; decide), _, _, rfl, rfl, _, _, rfl, rfl, _, _, rfl, rfl, (by show (0 : Int) < 2147483629; decide), ?_⟩
      exact ⟨_, _, rfl, s2, e2⟩
    · rintro σ H' ⟨z, v, rfl, s2, e2⟩
      refine ⟨_, rfl, _, rfl, a, _, rfl, s2.seq hS, fun q hq => ?_⟩
      rw [cut60]
      refine ⟨q, _, rfl, .inl (SqL.of upd_same), fun l hl => ⟨_, rfl, (by show 3 ≤ sizeLine; decide), fun t ht => ?_⟩⟩
      have nq : l ≠ q := fun e => by
        rw [e, upd_same] at hl
        cases hl
      have nt : t ≠ l := fun e => by
        rw [e, upd_same] at ht
        cases ht
      have hl0 : H' l = none := by rw [← hl, upd_ne nq]
      have ht0 : upd H' q (.lst ((ns.take 60).map V.int)) t = none := by rw [← ht, upd_ne nt]
      have ntq : t ≠ q := fun e => by
        rw [e, upd_same] at ht0
        cases ht0
      have ht1 : H' t = none := by rw [← ht0, upd_ne ntq]
      refine k _ t l (ns.take 60) z (fun b o e => ?_) (s2.free ht1) (s2.free hl0) ⟨upd_same, ?_, ?_⟩
      · have e' := s2 b o e
        rw [upd_ne (ne_of_none e' ht1), upd_ne (ne_of_none e' hl0), upd_ne (ne_of_none e' hq)]
        exact e'
      · rw [upd_ne nt.symm, upd_same]
      · rw [List.length_take]
        omega
theorem scDraw : FnScope ["_law_source_here", "_law_many", "_law_number", "_law_cell"] ["_law_source_here", "_law_many"] (defScope sDraw) := ⟨rfl, rfl, rfl, by decide +kernel, rfl, by decide +kernel, by decide +kernel⟩
theorem ok_draw {f : Addr} {fd : FuncData} (F : Fun K "_law_draw" "_law_draw" sDraw f fd) : FnOk P w K mg base CX0 1 f fd ["_law_source_here", "_law_many"] spDraw := by
  refine F.ok scDraw (fun vs H Q E h => ?_) (fun cdv A outer s H vs Q E hr h => ?_)
  · obtain ⟨s, l, ms, z, b, m, rfl, _⟩ := h
    rfl
  · obtain ⟨a, l, ms, z, b, m, rfl, hs, m0, m1, b0, b1, k⟩ := h
    refine ⟨_, pss_cons (ps_asg (pe_op op_add (pe_ix ix_list (pv 0) pe_int (fun _ _ => rfl)) pe_int) (pg_sub (pv 0) pe_int set_list))
      (pss_cons (ps_set (i := 2) scDraw.nd rfl (Or.inl rfl) (pe_op op_add (pe_ix ix_list (pv 0) pe_int (fun _ _ => rfl)) (pe_op op_mul (pe_op op_mul pe_int (pe_ix ix_list (pv 0) pe_int (fun _ _ => rfl))) (pe_ix ix_list (pv 0) pe_int (fun _ _ => rfl)))))
      (pss_cons (ps_if (pt_cmpR (op_neD hr.units) (pe_ix ix_list (pv 0) pe_int (fun _ _ => rfl)) (pe_lst pa_nil) (nomark _))
        (pss_cons (ps_set (i := 3) scDraw.nd rfl (Or.inl rfl) (pe_bm PySem.F.plainAttrs_list PySem.F.slot_list_pop PySem.F.type_list_pop mt_popAt (pe_ix ix_list (pv 0) pe_int (fun _ _ => rfl)) (pa_cons pe_int pa_nil)))
        (pss_cons (ps_if (pt_cmpR op_ge (pv 3) (pe_op op_pow pe_int pe_int) (nomark _))
          (pss_cons (ps_expr (pe_bm PySem.F.plainAttrs_list PySem.F.slot_list_insert PySem.F.type_list_insert mt_insert (pe_ix ix_list (pv 0) pe_int (fun _ _ => rfl)) (pa_cons pe_int (pa_cons (pe_op op_fdiv (pv 3) (pv 1)) pa_nil))))
          (pss_one (ps_ret (pe_op op_mod (pv 3) (pv 1))))) pss_nil)
        (pss_one (ps_set (i := 2) scDraw.nd rfl (Or.inl rfl) (pe_op op_add (pv 2) (pv 3))))))
        pss_nil)
      (pss_cons (ps_set (i := 2) scDraw.nd rfl (Or.inl rfl) (pe_op op_mod (pe_op op_mul (pe_op op_mod (pv 2) pe_int) pe_int) pe_int))
      (pss_cons (ps_set (i := 2) scDraw.nd rfl (Or.inl rfl) (pe_op op_mod (pe_op op_add (pe_op op_add (pe_op op_mul (pv 2) (pv 2)) (pe_op op_mul pe_int (pv 2))) pe_int) pe_int))
      (pss_one (ps_ret (pe_op op_mod (pe_op op_fdiv (pe_op op_mod (pe_op op_mul (pv 2) pe_int) pe_int) pe_int) (pv 1)))))))), ?_⟩
    have hal := hs.ne
    refine ⟨_, rfl, _, _, _, _, rfl, rfl, SqL.of hs.hs, rfl, _, _, rfl, rfl, _, rfl, _, _, _, _, rfl, rfl, hs.hs, rfl, ?_⟩
    show tSeq _ _ _ _ (upd H a (.lst [.ref l, .int z, .int (b + 1)]))
    generalize hH1 : upd H a (.lst [.ref l, .int z, .int (b + 1)]) = H1
    have hs1 : Src H1 a l ms z (b + 1) := by
      rw [← hH1]
      exact ⟨upd_same, by rw [upd_ne hal.symm]; exact hs.hl, hs.len⟩
    have k1 : But a l H H1 := by
      rw [← hH1]
      exact But.upd (fun b o _ _ e => e) (.inl rfl)
    refine ⟨_, rfl, _, _, _, _, rfl, rfl, SqL.of hs1.hs, rfl, _, rfl, _, _, _, _, rfl, rfl, SqL.of hs1.hs, rfl, _, _, rfl, rfl, .inl (by decide), _, rfl, _, _, _, _, rfl, rfl, SqL.of hs1.hs, rfl, _, _, rfl, rfl, .inr ⟨by omega, by omega⟩, _, _, rfl, rfl, ?_⟩
    refine ⟨_, rfl, _, _, _, _, rfl, rfl, SqL.of hs1.hs, rfl, Nat.zero_le _, fun p hp => ?_⟩
    have hs2 : Src (upd H1 p (.lst [])) a l ms z (b + 1) := hs1.but fun b o e => by
      rw [upd_ne (ne_of_none e hp)]
      exact e
    have k2 : But a l H (upd H1 p (.lst [])) := k1.fresh hp
    refine ⟨_, _, .lst (SqL.of hs2.hl) (dpInts K _ ms), .lst (SqL.of upd_same) .nil, shapedInts ms, rfl, _, rfl, ?_⟩
    generalize upd H1 p (.lst []) = H2 at hs2 k2 ⊢
    cases ms with
    | nil =>
      refine iteF ?_
      refine ⟨_, rfl, _, _, rfl, rfl, (by show (0 : Int) < 2147483563; decide), _, _, rfl, rfl, .inr (by decide), _, _, rfl, rfl, (by show (0 : Int) < 2147483647; decide), ?_⟩
      refine ⟨_, rfl, _, rfl, _, _, rfl, rfl, .inl ⟨?_, ?_⟩, _, rfl, _, _, rfl, rfl, .inl (by decide), _, _, rfl, rfl, _, _, rfl, rfl, _, _, rfl, rfl, (by show (0 : Int) < 2147483587; decide), ?_⟩
      · omega
      · omega
      refine ⟨_, rfl, _, _, rfl, rfl, .inr (by decide), _, _, rfl, rfl, (by show (0 : Int) < 2147483629; decide), _, _, rfl, rfl, ⟨by decide, by decide⟩, _, rfl, _, _, rfl, rfl, m0, ?_⟩
      exact k _ _ _ k2 hs2 (Int.emod_nonneg _ (by omega)) (Int.emod_lt_of_pos _ m0)
    | cons c r =>
      have hr : r.length + 1 ≤ 63 := hs2.len
      refine iteT ?_
      refine ⟨_, rfl, _, _, _, _, rfl, rfl, SqL.of hs2.hs, rfl, .inl ⟨rfl, _, SqL.of hs2.hl⟩, l, _, 0, 0, .int c, rfl, rfl, hs2.hl, by decide, by decide, seq0 _, rfl, ?_⟩
      have hs3 : Src (upd H2 l (.lst (r.map V.int))) a l r z (b + 1) := ⟨by rw [upd_ne hal]; exact hs2.hs, upd_same, by omega⟩
      have k3 : But a l H (upd H2 l (.lst (r.map V.int))) := k2.upd (.inr rfl)
      show tSeq _ _ _ _ (upd H2 l (.lst (r.map V.int)))
      generalize upd H2 l (.lst (r.map V.int)) = H3 at hs3 k3 ⊢
      refine ⟨_, rfl, _, _, rfl, rfl, ⟨by decide, by decide, by decide⟩, _, _, rfl, rfl, _, rfl, ?_⟩
      refine ite2 (fun _ => ?_) (fun _ => ?_)
      · refine ⟨_, rfl, _, _, _, _, rfl, rfl, SqL.of hs3.hs, rfl, .inl ⟨rfl, _, SqL.of hs3.hl⟩, _, rfl, _, rfl, _, _, rfl, rfl, ⟨m0, by omega⟩, l, _, _, _, rfl, rfl, hs3.hl, ?_, by decide, by decide, ?_⟩
        · rw [List.length_map]
          show r.length < 16777216
          omega
        refine ⟨_, rfl, _, rfl, _, _, rfl, rfl, m0, ?_⟩
        exact k _ (c / m :: r) _ (k3.upd (.inr rfl)) ⟨by rw [upd_ne hal]; exact hs3.hs, upd_same, hr⟩ (Int.emod_nonneg _ (by omega)) (Int.emod_lt_of_pos _ m0)
      · refine ⟨_, rfl, _, rfl, _, _, rfl, rfl, ?_⟩
        refine ⟨_, rfl, _, _, rfl, rfl, (by show (0 : Int) < 2147483563; decide), _, _, rfl, rfl, .inr (by decide), _, _, rfl, rfl, (by show (0 : Int) < 2147483647; decide), ?_⟩
        refine ⟨_, rfl, _, rfl, _, _, rfl, rfl, .inl ⟨?_, ?_⟩, _, rfl, _, _, rfl, rfl, .inl (by decide), _, _, rfl, rfl, _, _, rfl, rfl, _, _, rfl, rfl, (by show (0 : Int) < 2147483587; decide), ?_⟩
        · omega
        · omega
        refine ⟨_, rfl, _, _, rfl, rfl, .inr (by decide), _, _, rfl, rfl, (by show (0 : Int) < 2147483629; decide), _, _, rfl, rfl, ⟨by decide, by decide⟩, _, rfl, _, _, rfl, rfl, m0, ?_⟩
        exact k _ _ _ k3 hs3 (Int.emod_nonneg _ (by omega)) (Int.emod_lt_of_pos _ m0)
end
end Vm
namespace Vm
open PySem L2
/-! data of any kind as trees: how it lies in the abstract heap, its text by repr, its type -/
inductive Tr where
  | non | bl (b : Bool) | int (i : Int) | str (x : Str) | lst (xs : List Tr) | tup (xs : List Tr) | dct (ks : List Key) (xs : List Tr)
def keyText : Key → Str
  | .inl i => toString i
  | .inr z => reprText z
def keyFits : Key → Prop
  | .inl i => i.natAbs.log2 < 1920
  | .inr z => (reprText z).length ≤ sizeLine
def entryText (k v : Str) : Str := k ++ ": " ++ v
mutual
def Tr.text : Tr → Str
  | .non => "None"
  | .bl b => if b then "True" else "False"
  | .int i => toString i
  | .str x => reprText x
  | .lst xs => listText (texts xs)
  | .tup xs => tupleText (texts xs)
  | .dct ks xs => dictText (List.zipWith entryText (ks.map keyText) (texts xs))
def texts : List Tr → List Str
  | [] => []
  | x :: r => x.text :: texts r
end
theorem texts_map : ∀ ts : List Tr, texts ts = ts.map Tr.text
  | [] => rfl
  | t :: r => by
    show t.text :: texts r = _
    rw [texts_map r]
    rfl
/-- an empty tuple of the module's own -/
def KTup (K : PySem.W.Frag) (a : Addr) : Prop := ∃ (o : Obj) (its : Array Value) (n : Nat), K.lookup a = some o ∧ o.cls = .type "tuple" ∧ o.data = .seq its n ∧ its.size ≤ sizeLine ∧ Vals [] its.toList
mutual
/-- v is data of the tree t, at most n deep, its own objects at bs -/
inductive Dt (K : PySem.W.Frag) (H : Hp) : V → Tr → Nat → List Addr → Prop
  | non {n : Nat} : Dt K H .non .non n []
  | bl {n : Nat} (b : Bool) : Dt K H (.bl b) (.bl b) n []
  | int {n : Nat} {i : Int} (h : i.natAbs.log2 < 1920) : Dt K H (.int i) (.int i) n []
  | str {n : Nat} {x : Str} (h : (reprText x).length ≤ sizeLine) (hz : x.length ≤ sizeLine) : Dt K H (.str x) (.str x) n []
  | lst {n : Nat} {a : Addr} {xs : List V} {ts : List Tr} {bs : List Addr} (h : H a = some (.lst xs)) (r : DtAll K H xs ts n bs) (na : a ∉ bs) : Dt K H (.ref a) (.lst ts) (n + 1) (a :: bs)
  | emp {n : Nat} {a : Addr} (h : KTup K a) : Dt K H (.ref a) (.tup []) (n + 1) []
  | tup {n : Nat} {a : Addr} {ob : Obj} {xs : List V} {ts : List Tr} {bs : List Addr} (h : H a = some (.frz ob (.tup xs))) (nd : ob.dict = none) (r : DtAll K H xs ts n bs) (na : a ∉ bs) : Dt K H (.ref a) (.tup ts) (n + 1) (a :: bs)
  | dct {n : Nat} {a : Addr} {kvs : List (Key × V)} {ts : List Tr} {bs : List Addr} (h : H a = some (.dK kvs)) (kf : ∀ p ∈ kvs, keyFits p.1) (r : DtAll K H (kvs.map (·.2)) ts n bs) (na : a ∉ bs) : Dt K H (.ref a) (.dct (kvs.map (·.1)) ts) (n + 1) (a :: bs)
inductive DtAll (K : PySem.W.Frag) (H : Hp) : List V → List Tr → Nat → List Addr → Prop
  | nil {n : Nat} : DtAll K H [] [] n []
  | cons {n : Nat} {v : V} {vs : List V} {x : Tr} {xs : List Tr} {bs cs : List Addr} (h : Dt K H v x n bs) (r : DtAll K H vs xs n cs) : DtAll K H (v :: vs) (x :: xs) n (bs ++ cs)
end
mutual
theorem Dt.lvl {K : PySem.W.Frag} {H : Hp} : ∀ {v : V} {x : Tr} {n m : Nat} {bs : List Addr}, Dt K H v x n bs → n ≤ m → Dt K H v x m bs
  | _, _, _, _, _, .non, _ => .non
  | _, _, _, _, _, .bl b, _ => .bl b
  | _, _, _, _, _, .int h, _ => .int h
  | _, _, _, _, _, .str h hz, _ => .str h hz
  | _, _, _, 0, _, .lst _ _ _, l => absurd l (by omega)
  | _, _, _, _ + 1, _, .lst h r na, l => .lst h (r.lvl (Nat.le_of_succ_le_succ l)) na
  | _, _, _, 0, _, .emp _, l => absurd l (by omega)
  | _, _, _, _ + 1, _, .emp h, l => .emp h
  | _, _, _, 0, _, .tup _ _ _ _, l => absurd l (by omega)
  | _, _, _, _ + 1, _, .tup h nd r na, l => .tup h nd (r.lvl (Nat.le_of_succ_le_succ l)) na
  | _, _, _, 0, _, .dct _ _ _ _, l => absurd l (by omega)
  | _, _, _, _ + 1, _, .dct h kf r na, l => .dct h kf (r.lvl (Nat.le_of_succ_le_succ l)) na
theorem DtAll.lvl {K : PySem.W.Frag} {H : Hp} : ∀ {v : List V} {x : List Tr} {n m : Nat} {bs : List Addr}, DtAll K H v x n bs → n ≤ m → DtAll K H v x m bs
  | _, _, _, _, _, .nil, _ => .nil
  | _, _, _, _, _, .cons h r, l => .cons (h.lvl l) (r.lvl l)
end
mutual
theorem Dt.keep {K : PySem.W.Frag} {H H' : Hp} : ∀ {v : V} {x : Tr} {n : Nat} {bs : List Addr}, Dt K H v x n bs → (∀ b ∈ bs, ∀ o, H b = some o → H' b = some o) → Dt K H' v x n bs
  | _, _, _, _, .non, _ => .non
  | _, _, _, _, .bl b, _ => .bl b
  | _, _, _, _, .int h, _ => .int h
  | _, _, _, _, .str h hz, _ => .str h hz
  | _, _, _, _, .lst h r na, k => .lst (k _ List.mem_cons_self _ h) (r.keep fun b hb => k b (List.mem_cons_of_mem _ hb)) na
  | _, _, _, _, .emp h, k => .emp h
  | _, _, _, _, .tup h nd r na, k => .tup (k _ List.mem_cons_self _ h) nd (r.keep fun b hb => k b (List.mem_cons_of_mem _ hb)) na
  | _, _, _, _, .dct h kf r na, k => .dct (k _ List.mem_cons_self _ h) kf (r.keep fun b hb => k b (List.mem_cons_of_mem _ hb)) na
theorem DtAll.keep {K : PySem.W.Frag} {H H' : Hp} : ∀ {v : List V} {x : List Tr} {n : Nat} {bs : List Addr}, DtAll K H v x n bs → (∀ b ∈ bs, ∀ o, H b = some o → H' b = some o) → DtAll K H' v x n bs
  | _, _, _, _, .nil, _ => .nil
  | _, _, _, _, .cons h r, k => .cons (h.keep fun b hb => k b (List.mem_append_left _ hb)) (r.keep fun b hb => k b (List.mem_append_right _ hb))
end
mutual
/-- its objects stand -/
theorem Dt.there {K : PySem.W.Frag} {H : Hp} : ∀ {v : V} {x : Tr} {n : Nat} {bs : List Addr}, Dt K H v x n bs → ∀ b ∈ bs, ∃ o, H b = some o
  | _, _, _, _, .non => fun _ h => nomatch h
  | _, _, _, _, .bl b => fun _ h => nomatch h
  | _, _, _, _, .int h => fun _ h => nomatch h
  | _, _, _, _, .str h hz => fun _ h => nomatch h
  | _, _, _, _, .lst h r na => fun b hb => (List.mem_cons.mp hb).elim (fun e => ⟨_, e ▸ h⟩) (DtAll.there r b)
  | _, _, _, _, .emp h => fun _ h => nomatch h
  | _, _, _, _, .tup h nd r na => fun b hb => (List.mem_cons.mp hb).elim (fun e => ⟨_, e ▸ h⟩) (DtAll.there r b)
  | _, _, _, _, .dct h kf r na => fun b hb => (List.mem_cons.mp hb).elim (fun e => ⟨_, e ▸ h⟩) (DtAll.there r b)
theorem DtAll.there {K : PySem.W.Frag} {H : Hp} : ∀ {v : List V} {x : List Tr} {n : Nat} {bs : List Addr}, DtAll K H v x n bs → ∀ b ∈ bs, ∃ o, H b = some o
  | _, _, _, _, .nil => fun _ h => nomatch h
  | _, _, _, _, .cons h r => fun b hb => (List.mem_append.mp hb).elim (Dt.there h b) (DtAll.there r b)
end
theorem DtAll.length {K : PySem.W.Frag} {H : Hp} : ∀ {v : List V} {x : List Tr} {n : Nat} {bs : List Addr}, DtAll K H v x n bs → v.length = x.length
  | _, _, _, _, .nil => rfl
  | _, _, _, _, .cons _ r => congrArg (· + 1) r.length
theorem DtAll.append {K : PySem.W.Frag} {H : Hp} : ∀ {v v' : List V} {x x' : List Tr} {n : Nat} {bs cs : List Addr}, DtAll K H v x n bs → DtAll K H v' x' n cs → DtAll K H (v ++ v') (x ++ x') n (bs ++ cs)
  | _, _, _, _, _, _, _, .nil, s => s
  | _, _, _, _, _, _, _, .cons (bs := b1) (cs := b2) h r, s => by
    rw [List.append_assoc]
    exact .cons h (r.append s)
/-- the item at i -/
theorem DtAll.get {K : PySem.W.Frag} {H : Hp} : ∀ {vs : List V} {ts : List Tr} {n : Nat} {bs : List Addr}, DtAll K H vs ts n bs → ∀ {i : Nat} {v : V}, vs[i]? = some v → ∃ t cs, ts[i]? = some t ∧ Dt K H v t n cs ∧ ∀ c ∈ cs, c ∈ bs
  | _, _, _, _, .nil, _, _, e => nomatch e
  | _, _, _, _, .cons h r, 0, _, e => ⟨_, _, rfl, Option.some.inj e ▸ h, fun c hc => List.mem_append_left _ hc⟩
  | _, _, _, _, .cons h r, i + 1, _, e => by
    obtain ⟨t, cs, e1, d, k⟩ := r.get (i := i) e
    exact ⟨t, cs, e1, d, fun c hc => List.mem_append_right _ (k c hc)⟩
/-- a part of it -/
theorem DtAll.part {K : PySem.W.Frag} {H : Hp} {n : Nat} : ∀ {vs : List V} {ts : List Tr} {bs : List Addr}, DtAll K H vs ts n bs → ∀ i, (∃ cs, DtAll K H (vs.take i) (ts.take i) n cs ∧ ∀ c ∈ cs, c ∈ bs) ∧ ∃ cs, DtAll K H (vs.drop i) (ts.drop i) n cs ∧ ∀ c ∈ cs, c ∈ bs
  | _, _, _, .nil, i => ⟨⟨[], by simpa using .nil, fun _ h => nomatch h⟩, ⟨[], by simpa using .nil, fun _ h => nomatch h⟩⟩
  | _, _, _, .cons h r, 0 => ⟨⟨[], .nil, fun _ h => nomatch h⟩, ⟨_, .cons h r, fun _ z => z⟩⟩
  | _, _, _, .cons (bs := b1) h r, i + 1 => by
    obtain ⟨⟨cs, d, k⟩, ⟨cs', d', k'⟩⟩ := r.part i
    exact ⟨⟨b1 ++ cs, .cons h d, fun c hc => (List.mem_append.mp hc).elim (List.mem_append_left _) fun z => List.mem_append_right _ (k c z)⟩, ⟨cs', d', fun c hc => List.mem_append_right _ (k' c hc)⟩⟩
/-! types -/
def tyOf : Tr → String
  | .non => "NoneType"
  | .bl _ => "bool"
  | .int _ => "int"
  | .str _ => "str"
  | .lst _ => "list"
  | .tup _ => "tuple"
  | .dct _ _ => "dict"
theorem Dt.ty {K : PySem.W.Frag} {H : Hp} : ∀ {v : V} {t : Tr} {n : Nat} {bs : List Addr}, Dt K H v t n bs → TyX K H v (.type (tyOf t))
  | _, _, _, _, .non => .base .non
  | _, _, _, _, .bl b => .base (.bl b)
  | _, _, _, _, .int h => .base (.int _)
  | _, _, _, _, .str h hz => .base (.str _)
  | _, _, _, _, .lst h r na => .base (.lst h)
  | _, _, _, _, .emp h => let ⟨o, _, _, e, c, _⟩ := h; .kTuple e c
  | _, _, _, _, .tup h nd r na => .fTuple h
  | _, _, _, _, .dct h kf r na => .base (.dK h)
def isStr : Tr → Bool
  | .str _ => true
  | _ => false
def isTup : Tr → Bool
  | .tup _ => true
  | _ => false
def isBl : Tr → Bool
  | .bl _ => true
  | _ => false
def isInt : Tr → Bool
  | .bl _ => true
  | .int _ => true
  | _ => false
theorem kit_str {K : PySem.W.Frag} (t : Tr) : PySem.W.kitOne K (.type (tyOf t)) (.type "str") = some (isStr t) := by
  cases t <;> (dsimp only [tyOf, isStr]; exact kit_ty (by decide +kernel))
theorem kit_tup {K : PySem.W.Frag} (t : Tr) : PySem.W.kitOne K (.type (tyOf t)) (.type "tuple") = some (isTup t) := by
  cases t <;> (dsimp only [tyOf, isTup]; exact kit_ty (by decide +kernel))
theorem kit_bl {K : PySem.W.Frag} (t : Tr) : PySem.W.kitOne K (.type (tyOf t)) (.type "bool") = some (isBl t) := by
  cases t <;> (dsimp only [tyOf, isBl]; exact kit_ty (by decide +kernel))
theorem kit_int {K : PySem.W.Frag} (t : Tr) : PySem.W.kitOne K (.type (tyOf t)) (.type "int") = some (isInt t) := by
  cases t <;> (dsimp only [tyOf, isInt]; exact kit_ty (by decide +kernel))
section
variable {X : Cx} {pins : List (Addr × Obj)} {σ : St} {H : Hp} {s : Shared}
/-- keys and values of a dict's entries -/
theorem pairs_keys {P : Program} {w : World} {h : Heap} {bs : List Addr} {n : Nat} : ∀ {kvs : List (Key × V)} {vs : List (Key × Value)} {es : List DictEntry}, KV kvs vs → PySem.Pairs (mixKind P w) es vs → (∀ p ∈ kvs, keyFits p.1) →
    ReprAllK P w bs h n (es.map (·.key)) ((kvs.map (·.1)).map keyText) ∧ es.map (·.val) = vs.map (·.2) ∧ Vals (kvs.map (·.2)) (vs.map (·.2))
  | _, _, _, .nil, .nil, _ => ⟨.nil, rfl, .nil⟩
  | (k, v) :: kvs, _, _, .cons (b := b) r rs, .cons e ev es, kf => by
    obtain ⟨h1, h2, h3⟩ := pairs_keys (h := h) (bs := bs) (n := n) rs es fun p hp => kf p (List.mem_cons_of_mem _ hp)
    obtain ⟨r1, r2⟩ := r
    refine ⟨.cons ?_ h1, by rw [List.map_cons, List.map_cons, h2, ev], .cons r2 h3⟩
    have hk := kf (k, v) List.mem_cons_self
    obtain ⟨b1, b2⟩ := b
    dsimp only at r1 e ⊢
    subst r1
    rcases keyIs_shape e with ⟨i, t, rfl, q⟩ | ⟨x, t, rfl, q⟩
    · rw [q]
      exact .of_is (ReprIs.int t hk) _ _ _
    · rw [q]
      exact .of_is (ReprIs.str x t hk) _ _ _
/-- the addresses that a repr goes through: the value's own ones, and empty tuples of the module -/
def Mine (K : PySem.W.Frag) (bs cs : List Addr) : Prop := ∀ c ∈ cs, c ∈ bs ∨ KTup K c
theorem Mine.not {bs cs : List Addr} {a : Addr} (I : Inv X pins σ H s) (m : Mine X.K bs cs) {o : HO} (h : H a = some o) (na : a ∉ bs) : a ∉ cs := fun z => by
  rcases m a z with q | ⟨ob, _, _, e, _⟩
  · exact na q
  · have e2 := (I.bs a ob (I.ok.mod.kin a ob e)).2
    rw [h] at e2
    cases e2
mutual
theorem Dt.repr (I : Inv X pins σ H s) : ∀ {v : V} {x : Tr} {n : Nat} {bs : List Addr} {u : Value}, Dt X.K H v x n bs → RelV v u → ∃ cs, Mine X.K bs cs ∧ ReprK X.prog X.w cs s.heap n u x.text
  | _, _, _, _, _, .non, r => by
    cases r
    exact ⟨[], (fun _ h => nomatch h), .of_is ReprIs.none _ _ _⟩
  | _, _, _, _, _, .bl b, r => by
    cases r
    exact ⟨[], (fun _ h => nomatch h), .of_is (ReprIs.bool b) _ _ _⟩
  | _, _, _, _, _, .int h, r => by
    obtain ⟨t, rfl⟩ := r
    exact ⟨[], (fun _ h => nomatch h), .of_is (ReprIs.int t h) _ _ _⟩
  | _, _, _, _, _, .str h hz, r => by
    obtain ⟨t, rfl⟩ := r
    exact ⟨[], (fun _ h => nomatch h), .of_is (ReprIs.str _ t h) _ _ _⟩
  | _, _, _, _, _, .lst (a := a) h rs na, r => by
    cases r
    obtain ⟨z, its, n', rv, e⟩ := I.hok _ _ h
    obtain ⟨cs, m, q⟩ := DtAll.repr I rs rv
    refine ⟨a :: cs, fun c hc => (List.mem_cons.mp hc).elim (fun q => .inl (q ▸ List.mem_cons_self)) fun q => (m c q).imp_left (List.mem_cons_of_mem _), ?_⟩
    have na' := m.not I h na
    cases its with
    | nil =>
      cases rv
      cases rs
      have e2 : listText [] = "[]" := listText_nil
      show ReprK _ _ _ _ _ _ (listText [])
      rw [e2]
      exact (ReprK.listEmpty e rfl rfl).more fun b hb => List.mem_cons.mpr (.inl (List.mem_singleton.mp hb))
    | cons y ys => exact ReprK.list e rfl rfl na' (by simpa using q.length_eq) fun i y' e' => q.item i y' (by simpa using e')
  | _, _, _, _, _, .emp (a := a) h, r => by
    cases r
    obtain ⟨its, rv, ⟨o, e, c, n', d⟩, _⟩ := I.tuple (.inr h)
    cases rv
    exact ⟨[a], (fun c hc => .inr (List.mem_singleton.mp hc ▸ h)), ReprK.tuple e c d (by simp) .nil⟩
  | _, _, _, _, _, .tup (a := a) h nd rs na, r => by
    cases r
    obtain ⟨_, z, its, rv, o, e, c, n', d⟩ := I.hok _ _ h
    obtain ⟨cs, m, q⟩ := DtAll.repr I rs rv
    exact ⟨a :: cs, (fun c hc => (List.mem_cons.mp hc).elim (fun q => .inl (q ▸ List.mem_cons_self)) fun q => (m c q).imp_left (List.mem_cons_of_mem _)), ReprK.tuple e c d (m.not I h na) (by simpa using q)⟩
  | _, _, _, _, _, .dct (a := a) h kf rs na, r => by
    cases r
    obtain ⟨z, hs, vs, kv, o, es, ep, e, ex, d, ko, ps, nd⟩ := I.hok _ _ h
    obtain ⟨_, q2, q3⟩ := pairs_keys (h := s.heap) (bs := []) (n := 0) kv ps kf
    obtain ⟨cs, m, q⟩ := DtAll.repr I rs q3
    obtain ⟨q1, _, _⟩ := pairs_keys kv ps kf
    refine ⟨a :: cs, (fun c hc => (List.mem_cons.mp hc).elim (fun q => .inl (q ▸ List.mem_cons_self)) fun q => (m c q).imp_left (List.mem_cons_of_mem _)), ReprK.dict e ex.1 d hs (m.not I h na) (ReprEntriesK.of_two es.toList _ _ q1 ?_)⟩
    rw [q2]
    exact q
theorem DtAll.repr (I : Inv X pins σ H s) : ∀ {vs : List V} {xs : List Tr} {n : Nat} {bs : List Addr} {us : List Value}, DtAll X.K H vs xs n bs → Vals vs us → ∃ cs, Mine X.K bs cs ∧ ReprAllK X.prog X.w cs s.heap n us (texts xs)
  | _, _, _, _, _, .nil, .nil => ⟨[], (fun _ h => nomatch h), .nil⟩
  | _, _, _, _, _, .cons (bs := b1) (cs := b2) h rs, .cons r t => by
    obtain ⟨c1, m1, q1⟩ := Dt.repr I h r
    obtain ⟨c2, m2, q2⟩ := DtAll.repr I rs t
    exact ⟨c1 ++ c2, (fun c hc => (List.mem_append.mp hc).elim (fun q => (m1 c q).imp_left (List.mem_append_left _)) fun q => (m2 c q).imp_left (List.mem_append_right _)),
      .cons (q1.more fun b hb => List.mem_append_left _ hb) (q2.more_le (fun b hb => List.mem_append_right _ hb) (Nat.le_refl _))⟩
end
/-- repr(data) -/
def rRepr (K : PySem.W.Frag) : List V → Hp → VK → Prop := fun xs H Q => ∃ (v : V) (t : Tr) (n : Nat) (bs : List Addr), xs = [v] ∧ Dt K H v t n bs ∧ n ≤ 8 ∧ t.text.length ≤ sizeLine ∧ Q (.str t.text) H
theorem call_reprT (hg : X.A.guards = some []) (hu : X.A.units + 16 < cLine) : CallR X (.builtin "repr") (rRepr X.K) := by
  intro pins s σ H xs us Q I r h
  obtain ⟨v, t, n, bs, rfl, d, hn, hx, q⟩ := h
  obtain ⟨u, rfl, rv⟩ := vals1 r
  have fin : ∀ (h' : Heap) (tk : Tok) (k : Nat), (∀ b o, s.heap.get? b = some o → h'.get? b = some o) → EP X pins σ Q (.str t.text tk) { s with heap := h', toks := k } := fun h' tk k kk => ⟨.str t.text, H, I.kept kk, ⟨tk, rfl⟩, q⟩
  cases d with
  | non =>
    cases rv
    exact PySem.P.repr_of_none (fin s.heap _ _ fun _ _ e => e)
  | bl b =>
    cases rv
    exact PySem.P.repr_of_bool (fin s.heap _ _ fun _ _ e => e)
  | int hi =>
    obtain ⟨t, rfl⟩ := rv
    exact PySem.P.repr_of_int hi (fin s.heap _ _ fun _ _ e => e)
  | str hz _ =>
    obtain ⟨t, rfl⟩ := rv
    exact PySem.P.repr_of_str (fin s.heap _ _ fun _ _ e => e) hz
  | @lst n0 a xs ts bs hl rs na =>
    cases rv
    obtain ⟨z, its, n', rv', e⟩ := I.hok _ _ hl
    obtain ⟨cs, m, k⟩ := DtAll.repr I rs rv'
    have na' := m.not I hl na
    refine call_repr_slot (by omega) ⟨_, e, rfl⟩ PySem.F.slot_list_repr.toG ?_
    cases its with
    | nil =>
      cases rv'
      cases rs
      exact call_list_repr_empty ⟨_, e, rfl⟩ e rfl ⟨_, _, rfl, fin s.heap _ _ fun _ _ q => q⟩
    | cons y ys =>
      exact call_list_reprK e rfl rfl na' (by simpa using k.length_eq) (fun i y' e' => k.item i y' (by simpa using e')) (g := []) hg (fun b _ => Clear.nil b) (by show X.A.units + 1 + _ < _; omega) (fun _ _ q => q)
        (fun h' t tk kk => ⟨_, _, rfl, fin h' t tk kk⟩) hx
  | @emp n0 a h =>
    cases rv
    obtain ⟨its, rv', ⟨o, e, c, n', dd⟩, _⟩ := I.tuple (.inr h)
    cases rv'
    exact call_repr_slot (by omega) ⟨_, e, c⟩ PySem.F.slot_tuple_repr
      (call_tuple_reprK (as := []) (d := 0) e c dd (by simp) .nil (g := []) hg (fun b _ => Clear.nil b) (by show X.A.units + 1 + _ < _; omega) (fun _ _ q => q) (fun h' t tk kk => ⟨_, _, rfl, fin h' t tk kk⟩) hx)
  | @tup n0 a ob xs ts bs hl nd rs na =>
    cases rv
    obtain ⟨_, z, its, rv', o, e, c, n', dd⟩ := I.hok _ _ hl
    obtain ⟨cs, m, k⟩ := DtAll.repr I rs rv'
    exact call_repr_slot (by omega) ⟨_, e, c⟩ PySem.F.slot_tuple_repr
      (call_tuple_reprK e c dd (m.not I hl na) (by simpa using k) (g := []) hg (fun b _ => Clear.nil b) (by show X.A.units + 1 + _ < _; omega) (fun _ _ q => q) (fun h' t tk kk => ⟨_, _, rfl, fin h' t tk kk⟩) hx)
  | @dct n0 a kvs ts bs hl kf rs na =>
    cases rv
    obtain ⟨z, hs, vs, kv, o, es, ep, e, ex, dd, ko, ps, nd⟩ := I.hok _ _ hl
    obtain ⟨_, q2, q3⟩ := pairs_keys (h := s.heap) (bs := []) (n := 0) kv ps kf
    obtain ⟨cs, m, k⟩ := DtAll.repr I rs q3
    obtain ⟨q1, _, _⟩ := pairs_keys kv ps kf
    refine call_repr_slot (by omega) ⟨_, e, ex.1⟩ PySem.F.slot_dict_repr
      (call_dict_reprK (d := n0) (as := cs) e ex.1 dd hs (m.not I hl na) (ReprEntriesK.of_two es.toList _ _ q1 ?_) (g := []) hg (fun b _ => Clear.nil b) (by show X.A.units + 1 + _ < _; omega) (fun _ _ q => q) (fun h' t tk kk => ⟨_, _, rfl, fin h' t tk kk⟩) hx)
    rw [q2]
    exact k
end
/-- a tuple among the data -/
theorem Dt.tupOf {K : PySem.W.Frag} {H : Hp} {v : V} {t : Tr} {n : Nat} {bs : List Addr} (d : Dt K H v t n bs) (h : isTup t = true) : ∃ (a : Addr) (xs : List V) (ts : List Tr) (m : Nat) (cs : List Addr), v = .ref a ∧ t = .tup ts ∧ m < n ∧ SqT K H a xs ∧ DtAll K H xs ts m cs ∧ ∀ c ∈ cs, c ∈ bs := by
  cases d with
  | @tup n a ob xs ts bs e nd r na => exact ⟨a, xs, ts, n, bs, rfl, rfl, Nat.lt_succ_self _, .inl (.inr ⟨_, e⟩), r, fun c hc => List.mem_cons_of_mem _ hc⟩
  | @emp n a e => exact ⟨a, [], [], n, [], rfl, rfl, Nat.lt_succ_self _, .inr e, .nil, fun _ h => nomatch h⟩
  | _ => cases h
/-- a tuple: the module's empty one, or one that was made here, whose object has no dict -/
def TupE (K : PySem.W.Frag) (H : Hp) (a : Addr) (xs : List V) : Prop := (xs = [] ∧ KTup K a) ∨ ∃ o : Obj, H a = some (.frz o (.tup xs)) ∧ o.dict = none
theorem TupE.sq {K : PySem.W.Frag} {H : Hp} {a : Addr} {xs : List V} (h : TupE K H a xs) : SqT K H a xs := by
  rcases h with ⟨rfl, h⟩ | ⟨o, h, _⟩
  · exact .inr h
  · exact .inl (.inr ⟨o, h⟩)
theorem TupE.same {K : PySem.W.Frag} {H H' : Hp} {a : Addr} {xs : List V} (k : Same H H') (h : TupE K H a xs) : TupE K H' a xs := h.imp id fun ⟨o, h, d⟩ => ⟨o, k _ _ h, d⟩
theorem Dt.tupD {K : PySem.W.Frag} {H : Hp} {v : V} {t : Tr} {n : Nat} {bs : List Addr} (d : Dt K H v t n bs) (h : isTup t = true) : ∃ (a : Addr) (xs : List V) (ts : List Tr) (m : Nat) (cs : List Addr), v = .ref a ∧ t = .tup ts ∧ m < n ∧ TupE K H a xs ∧ DtAll K H xs ts m cs ∧ ∀ c ∈ cs, c ∈ bs := by
  cases d with
  | @tup n a ob xs ts bs e nd r na => exact ⟨a, xs, ts, n, bs, rfl, rfl, Nat.lt_succ_self _, .inr ⟨_, e, nd⟩, r, fun c hc => List.mem_cons_of_mem _ hc⟩
  | @emp n a e => exact ⟨a, [], [], n, [], rfl, rfl, Nat.lt_succ_self _, .inl ⟨rfl, e⟩, .nil, fun _ h => nomatch h⟩
  | _ => cases h
end Vm
namespace Vm
open PySem L2
/-! names -/
def lowB (c : Nat) : Bool := decide (97 ≤ c) && decide (c ≤ 122)
/-- one to eight letters a to z -/
def nmS (x : Str) : Bool := decide (1 ≤ x.length) && (decide (x.length ≤ 8) && x.cps.toList.all lowB)
def isNm : Tr → Bool
  | .str x => nmS x
  | _ => false
def ascB (c : Nat) : Bool := Unicode.isAlpha c == (decide (65 ≤ c) && decide (c ≤ 90) || lowB c) && (Unicode.isLower c == lowB c && ((Unicode.isUpper c || Unicode.isTitle c) == (decide (65 ≤ c) && decide (c ≤ 90))))
theorem asc_all : (List.range 128).all ascB = true := by decide +kernel
theorem asc_of {c : Nat} (h : c < 128) : Unicode.isAlpha c = (decide (65 ≤ c) && decide (c ≤ 90) || lowB c) ∧ Unicode.isLower c = lowB c ∧ (Unicode.isUpper c || Unicode.isTitle c) = (decide (65 ≤ c) && decide (c ≤ 90)) := by
  have z := List.all_eq_true.mp asc_all c (List.mem_range.mpr h)
  unfold ascB at z
  rw [Bool.and_eq_true, Bool.and_eq_true, beq_iff_eq, beq_iff_eq, beq_iff_eq] at z
  exact z
theorem low_all : ∀ l : List Nat, (l.all (fun c => decide (c < 128)) && (l.all Unicode.isAlpha && !l.any fun c => Unicode.isUpper c || Unicode.isTitle c)) = l.all lowB
  | [] => rfl
  | c :: r => by
    have ih := low_all r
    rw [List.all_cons, List.all_cons, List.any_cons, List.all_cons, ← ih]
    by_cases h : c < 128
    · obtain ⟨h1, h2, h3⟩ := asc_of h
      rw [h1, h3, decide_eq_true h]
      unfold lowB
      by_cases a1 : 65 ≤ c <;> by_cases a2 : c ≤ 90 <;> by_cases a3 : 97 ≤ c <;> by_cases a4 : c ≤ 122 <;> simp [a1, a2, a3, a4] <;> omega
    · have e : lowB c = false := by
        unfold lowB
        rw [decide_eq_false (show ¬ c ≤ 122 by omega), Bool.and_false]
      rw [decide_eq_false h, e]
      simp
theorem any_low : ∀ l : List Nat, l ≠ [] → l.all lowB = true → l.any Unicode.isLower = true
  | [], h, _ => absurd rfl h
  | c :: r, _, h => by
    rw [List.all_cons, Bool.and_eq_true] at h
    have c1 : lowB c = true := h.1
    have lt : c < 128 := by
      unfold lowB at c1
      rw [Bool.and_eq_true, decide_eq_true_eq, decide_eq_true_eq] at c1
      omega
    rw [List.any_cons, (asc_of lt).2.1, c1, Bool.true_or]
/-- what the program asks of a text of at most eight signs -/
theorem nm_prog {x : Str} (h : x.length ≤ 8) : (Txt.isascii x && (Txt.isalpha x && Txt.islower x)) = nmS x := by
  have e1 := low_all x.cps.toList
  have e2 := any_low x.cps.toList
  have l : x.length = x.cps.toList.length := by
    show x.cps.size = _
    simp
  have f1 : Txt.isascii x = x.cps.toList.all (fun c => decide (c < 128)) := by
    unfold Txt.isascii
    rw [← Array.all_toList]
  have f2 : Txt.isalpha x = (decide (x.length > 0) && x.cps.toList.all Unicode.isAlpha) := by
    unfold Txt.isalpha
    rw [← Array.all_toList]
  have f3 : Txt.islower x = (x.cps.toList.any Unicode.isLower && !x.cps.toList.any fun c => Unicode.isUpper c || Unicode.isTitle c) := by
    unfold Txt.islower
    rw [← Array.any_toList, ← Array.any_toList]
  unfold nmS
  rw [f1, f2, f3, decide_eq_true h, Bool.true_and, l]
  generalize x.cps.toList = L at e1 e2 ⊢
  cases L with
  | nil => rfl
  | cons c r =>
    have p : decide ((c :: r).length > 0) = true := decide_eq_true (by simp)
    have p2 : decide (1 ≤ (c :: r).length) = true := decide_eq_true (by simp)
    rw [p, p2, Bool.true_and, Bool.true_and]
    cases d : (c :: r).all lowB with
    | true =>
      rw [e2 (by simp) d, Bool.true_and, e1, d]
    | false =>
      rw [d] at e1
      revert e1
      cases (c :: r).all (fun c => decide (c < 128)) <;> cases (c :: r).all Unicode.isAlpha <;> cases (c :: r).any Unicode.isLower <;> cases (c :: r).any (fun c => Unicode.isUpper c || Unicode.isTitle c) <;> simp
end Vm
namespace Vm
open PySem SeqAt MeetsSeq
open AutoSeq1 (wpAny_loadPart')
/-! a dict and a text are never equal -/
abbrev dob (dd : Option Addr) (es : Array DictEntry) (n : Nat) (sl : Array (Option Value)) : Obj := { cls := .type "dict", dict := dd, data := .dict es n, slots := sl }
theorem str_no_dict (b : Str) (u : Tok) (l : Addr) (dd : Option Addr) (es : Array DictEntry) (n : Nat) (sl : Array (Option Value)) : Meets (Builtin.«str.__eq__» ⟨[.str b u, .ref l], []⟩) (fun _ R s => s.heap.get? l = some (dob dd es n sl) ∧ R (.ok (.ret .notImplemented)) s) :=
  .of_wp fun prog w A R s h => by
    obtain ⟨hp, g, d, tk, os⟩ := s
    obtain ⟨hl, h⟩ := h
    have f1 := F.sub_dict_str
    wp_walk using wpAny_loadPart' hl, wpAny_load hl
    exact ⟨_, rfl, h⟩
theorem dict_no_str (l : Addr) (dd : Option Addr) (es : Array DictEntry) (n : Nat) (sl : Array (Option Value)) (b : Str) (u : Tok) : Meets (Builtin.«dict.__eq__» ⟨[.ref l, .str b u], []⟩) (fun _ R s => s.heap.get? l = some (dob dd es n sl) ∧ R (.ok (.ret .notImplemented)) s) :=
  .of_wp fun prog w A R s h => by
    obtain ⟨hp, g, d, tk, os⟩ := s
    obtain ⟨hl, h⟩ := h
    have ty : (⟨hp, g, d, tk, os⟩ : Shared).TypeIs (.ref l) "dict" := ⟨_, hl, rfl⟩
    have f1 := F.sub_str_dict
    show wpAny _ _ (Builtin.Dict.dictSlotArgs "__eq__" ⟨[.ref l, .str b u], []⟩ >>= _) _ _ _
    refine wpAny_bind ?_
    unfold Builtin.Dict.dictSlotArgs
    refine wpAny_bind (wpAny_notOrdered_dict ty ?_)
    refine wpAny_pure ?_
    refine wpAny_bind (wpAny_isInstance (T := "str") (typeIs_str _ b u) f1 ?_)
    simp only [Bool.not_false, if_true]
    wp_walk
    exact ⟨_, rfl, h⟩
section
variable {A : Around} {s : Shared}
theorem rc_dict_str {l : Addr} {dd : Option Addr} {es : Array DictEntry} {n : Nat} {sl : Array (Option Value)} (b : Str) (u : Tok) (ho : s.heap.get? l = some (dob dd es n sl)) (hu : A.units < cLine) : RcAt A s (.ref l) (.str b u) false := fun prog w E Q h =>
  rc_eq_decline_or (k := false) ⟨_, ho, rfl⟩ (typeIs_str s b u) (by decide) F.sub_str_dict F.slot_dict_eq F.slot_str_eq_refl
    (fun _ q => call_meets F.slot_dict_eq ⟨_, ho, rfl⟩ F.entry_dict_eq (F.args_dict_eq_2 _ _) (dict_no_str l dd es n sl b u) ⟨ho, q⟩)
    (fun _ q => call_meets F.slot_str_eq_refl (typeIs_str s b u) F.entry_str_eq (F.args_str_eq_2 _ _) (str_no_dict b u l dd es n sl) ⟨ho, q⟩)
    (fun _ q => wpAny_of_eq (rfl : isSame (.ref l) (.str b u) = pure false) q) (.inr hu) h
theorem eq_dict_str {l : Addr} {o : Obj} {es : Array DictEntry} {n : Nat} (b : Str) (u : Tok) (ho : s.heap.get? l = some o) (hc : o.cls = .type "dict") (hd : o.data = .dict es n) (hu : A.units < cLine) : EqAt A s (.ref l) (.str b u) false := fun prog w E Q h => by
  obtain ⟨c, dd, dt, sl⟩ := o
  dsimp only at hc hd
  subst hc hd
  unfold eqBool
  refine wpAny_holding (wpAny_ite_split (fun hab => absurd (eq_of_beq hab) nofun) fun _ => ?_)
  exact wpAny_bind (rc_dict_str b u ho hu prog w E _ (wpAny_truthy_bool h))
end
open L2
/-- the tree is this text -/
def isS (x : Str) : Tr → Bool
  | .str y => y == x
  | _ => false
/-- any data beside a text -/
theorem Dt.eqStr {X : Cx} {pins : List (Addr × Obj)} {σ : St} {H : Hp} {s : Shared} {A : Around} (I : Inv X pins σ H s) {v : V} {t : Tr} {n : Nat} {bs : List Addr} {u : Value} (d : Dt X.K H v t n bs) (r : RelV v u) (x : Str) (k : Tok) (hu : A.units < cLine) : EqAt A s u (.str x k) (isS x t) := by
  cases d with
  | non =>
    cases r
    exact .none_str x k
  | bl b =>
    cases r
    exact .bool_str b x k
  | int h =>
    obtain ⟨t, rfl⟩ := r
    exact .int_str _ t x k
  | str h _ =>
    obtain ⟨t, rfl⟩ := r
    exact .str_str _ t x k
  | lst h rs na =>
    cases r
    obtain ⟨its, rv, pl, _⟩ := I.list (.inl (.inl h))
    exact .list_str x k pl.isList hu
  | emp h =>
    cases r
    obtain ⟨its, rv, pl, _⟩ := I.tuple (.inr h)
    exact .tuple_str x k pl hu
  | tup h nd rs na =>
    cases r
    obtain ⟨its, rv, pl, _⟩ := I.tuple (.inl (.inr ⟨_, h⟩))
    exact .tuple_str x k pl hu
  | dct h kf rs na =>
    cases r
    obtain ⟨z, hs, vs, kv, o, es, ep, e, ex, dd, _⟩ := I.hok _ _ h
    exact eq_dict_str x k e ex.1 dd hu
end Vm
namespace Vm
open PySem L2
def valS (x : Str) : Value → Bool
  | .str y _ => y == x
  | _ => false
theorem Dt.valS {K : PySem.W.Frag} {H : Hp} {v : V} {t : Tr} {n : Nat} {bs : List Addr} {u : Value} (d : Dt K H v t n bs) (r : RelV v u) (x : Str) : valS x u = isS x t := by
  cases d with
  | str h _ =>
    obtain ⟨t, rfl⟩ := r
    rfl
  | int h =>
    obtain ⟨t, rfl⟩ := r
    rfl
  | _ => cases r <;> rfl
theorem DtAll.anyS {K : PySem.W.Frag} {H : Hp} (x : Str) : ∀ {vs : List V} {ts : List Tr} {n : Nat} {bs : List Addr} {us : List Value}, DtAll K H vs ts n bs → Vals vs us → us.any (Vm.valS x) = ts.any (isS x)
  | _, _, _, _, _, .nil, .nil => rfl
  | _, _, _, _, _, .cons h r, .cons q s => by rw [List.any_cons, List.any_cons, h.valS q, r.anyS x s]
/-- ts are the texts ss -/
def sameS : List Tr → List Str → Bool
  | [], [] => true
  | t :: r, z :: s => isS z t && sameS r s
  | _, _ => false
def atS (ts : List Tr) (ss : List Str) (j : Nat) : Bool := match ts[j]?, ss[j]? with
  | some t, some z => isS z t
  | _, _ => true
theorem all_atS : ∀ (ts : List Tr) (ss : List Str), ((List.range (min ts.length ss.length)).all (atS ts ss) && ts.length == ss.length) = sameS ts ss
  | [], [] => rfl
  | [], z :: s => by simp [sameS]
  | t :: r, [] => by simp [sameS]
  | t :: r, z :: s => by
    have ih := all_atS r s
    have e : min (t :: r).length (z :: s).length = min r.length s.length + 1 := by
      simp only [List.length_cons]
      omega
    rw [e, List.range_succ_eq_map, List.all_cons, List.all_map]
    have e2 : (atS (t :: r) (z :: s) ∘ Nat.succ) = atS r s := by
      funext j
      simp [atS]
    have e3 : ((t :: r).length == (z :: s).length) = (r.length == s.length) := by
      simp only [List.length_cons]
      by_cases h : r.length = s.length
      · rw [h]
        simp
      · have h2 : ¬ r.length + 1 = s.length + 1 := by omega
        rw [beq_eq_false_iff_ne.mpr h, beq_eq_false_iff_ne.mpr h2]
    rw [e2, e3]
    show ((isS z t && _) && _) = (isS z t && sameS r s)
    rw [← ih, Bool.and_assoc]
section
variable {X : Cx}
def rInD (K : PySem.W.Frag) (neg : Bool) : R2 := fun x y H Q => ∃ (z : Str) (p : Addr) (xs : List V) (ts : List Tr) (n : Nat) (bs : List Addr), x = .str z ∧ y = .ref p ∧ SqT K H p xs ∧ DtAll K H xs ts n bs ∧ Q (.bl (if neg then !ts.any (isS z) else ts.any (isS z))) H
theorem op_inD {K : PySem.W.Frag} (eK : X.K = K) (hu : X.A.units + 1 < cLine) : OpR X (compareOp .In) (rInD K false) := by
  subst eK
  intro pins s σ H x y v u Q I rx ry h
  obtain ⟨z, p, xs, ts, n, bs, rfl, rfl, hp, d, q⟩ := h
  obtain ⟨k, rfl⟩ := rx
  cases ry
  obtain ⟨its, r, pl, hz⟩ := I.tuple hp
  refine SeqAt.in_tupleAt (valS z) pl (fun y hy => ?_) ⟨.bl _, H, I, rfl, ?_⟩
  · have hy' : y ∈ its := by simpa using hy
    obtain ⟨i, hi, e⟩ := List.mem_iff_getElem.mp hy'
    have e' : its[i]? = some y := by rw [List.getElem?_eq_getElem hi, e]
    have hi2 : i < xs.length := by rw [r.length]; exact hi
    obtain ⟨u, h1, h2⟩ := r.get (List.getElem?_eq_getElem hi2)
    rw [e'] at h1
    cases h1
    obtain ⟨t, cs, _, dt, _⟩ := d.get (List.getElem?_eq_getElem hi2)
    rw [dt.valS h2]
    exact dt.eqStr I h2 z k (by show X.A.units + 1 < cLine; exact hu)
  · rw [show its.toArray.any (valS z) = its.any (valS z) by simp, d.anyS z r]
    exact q
def rEqTS (K : PySem.W.Frag) : R2 := fun x y H Q => ∃ (p q : Addr) (xs : List V) (ts : List Tr) (n : Nat) (bs : List Addr) (ss : List Str), x = .ref p ∧ y = .ref q ∧ SqT K H p xs ∧ DtAll K H xs ts n bs ∧ SqT K H q (ss.map V.str) ∧ Q (.bl (sameS ts ss)) H
theorem op_eqTS (hu : X.A.units + 1 < cLine) : OpR X (compareOp .Eq) (rEqTS X.K) := by
  intro pins s σ H x y v u Q I rx ry h
  obtain ⟨p, q, xs, ts, n, bs, ss, rfl, rfl, hp, d, hq, k⟩ := h
  cases rx
  cases ry
  obtain ⟨its, r, pl, hz⟩ := I.tuple hp
  obtain ⟨its2, r2, pl2, hz2⟩ := I.tuple hq
  have l1 : its.length = ts.length := by rw [← r.length, d.length]
  have l2 : its2.length = ss.length := by rw [← r2.length, List.length_map]
  refine SeqAt.eq_tupleAt (e := atS ts ss) pl pl2 (by omega) (fun j h1 h2 => ?_) ⟨.bl _, H, I, rfl, ?_⟩
  · have h1' : j < its.length := by simpa using h1
    have h2' : j < its2.length := by simpa using h2
    have j1 : j < xs.length := by rw [r.length]; exact h1'
    have j2 : j < (ss.map V.str).length := by rw [r2.length]; exact h2'
    obtain ⟨u, a1, a2⟩ := r.get (List.getElem?_eq_getElem j1)
    obtain ⟨u2, b1, b2⟩ := r2.get (List.getElem?_eq_getElem j2)
    obtain ⟨t, cs, et, dt, _⟩ := d.get (List.getElem?_eq_getElem j1)
    have j3 : j < ss.length := by simpa using j2
    rw [List.getElem_map] at b2
    obtain ⟨k2, rfl⟩ := b2
    have c1 : its.toArray[j] = u := by
      have := List.getElem?_eq_getElem h1'
      rw [a1] at this
      simpa using (Option.some.inj this).symm
    have c2 : its2.toArray[j] = Value.str ss[j] k2 := by
      have := List.getElem?_eq_getElem h2'
      rw [b1] at this
      simpa using (Option.some.inj this).symm
    rw [c1, c2]
    have e : atS ts ss j = isS ss[j] t := by
      unfold atS
      rw [et, List.getElem?_eq_getElem j3]
    rw [e]
    exact dt.eqStr I a2 _ k2 hu
  · have e : ((List.range (min its.toArray.size its2.toArray.size)).all (atS ts ss) && its.toArray.size == its2.toArray.size) = sameS ts ss := by
      rw [← all_atS, List.size_toArray, List.size_toArray, l1, l2]
    rw [e]
    exact k
end
end Vm
namespace Vm
open PySem L2
abbrev sIsNum : Stmt := top 4
abbrev sIsName : Stmt := top 8
abbrev sAreCols : Stmt := top 10
abbrev sAreNames : Stmt := top 11
abbrev sIsKey : Stmt := top 12
theorem ite_ {c : Prop} [Decidable c] {A B : Prop} (h1 : c → A) (h2 : ¬ c → B) : if decide c = true then A else B := by
  by_cases h : c
  · rw [if_pos (decide_eq_true h)]
    exact h1 h
  · rw [if_neg (by simpa using h)]
    exact h2 h
theorem iteB {b : Bool} {A B : Prop} (h1 : b = true → A) (h2 : b = false → B) : if b = true then A else B := by
  cases b with
  | true => exact iteT (h1 rfl)
  | false => exact iteF (h2 rfl)
theorem sameT {K : PySem.W.Frag} {H H' : Hp} {a : Addr} {xs : List V} (k : Same H H') (h : SqT K H a xs) : SqT K H' a xs := by
  rcases h with (h | ⟨o, h⟩) | h
  · exact .inl (.inl (k _ _ h))
  · exact .inl (.inr ⟨o, k _ _ h⟩)
  · exact .inr h
theorem same_upd {H : Hp} {a : Addr} {o : HO} (h : H a = none) : Same H (upd H a o) := fun b u e => by
  rw [upd_ne (ne_of_none e h)]
  exact e
theorem Dt.same {K : PySem.W.Frag} {H H' : Hp} {v : V} {t : Tr} {n : Nat} {bs : List Addr} (d : Dt K H v t n bs) (k : Same H H') : Dt K H' v t n bs := d.keep fun b _ o e => k b o e
theorem DtAll.same {K : PySem.W.Frag} {H H' : Hp} {v : List V} {t : List Tr} {n : Nat} {bs : List Addr} (d : DtAll K H v t n bs) (k : Same H H') : DtAll K H' v t n bs := d.keep fun b _ o e => k b o e
def isNum : Tr → Bool
  | .int _ => true
  | _ => false
def areNms : Tr → Bool
  | .tup ts => decide (ts.length ≤ 2) && ts.all isNm
  | _ => false
def isKey (t : Tr) (ss : List Str) : Bool := match t with
  | .tup ts => sameS ts (ss.filter fun z => ts.any (isS z))
  | _ => false
/-- a test of any data -/
def spTest (K : PySem.W.Frag) (f : Tr → Bool) : Sp := fun vs H Q _ => ∃ (v : V) (t : Tr) (n : Nat) (bs : List Addr), vs = [v] ∧ Dt K H v t n bs ∧ ∀ H', Same H H' → Q (.bl (f t)) H'
def spKey (K : PySem.W.Frag) : Sp := fun vs H Q _ => ∃ (v : V) (t : Tr) (n : Nat) (bs : List Addr) (c : Addr) (ss : List Str), vs = [v, .ref c] ∧ Dt K H v t n bs ∧ SqT K H c (ss.map V.str) ∧ ss.length ≤ 4 ∧ ∀ H', Same H H' → Q (.bl (isKey t ss)) H'
structure TxtP (K : PySem.W.Frag) (mg : Str → Option Value) (fNm fNms : Addr) : Prop where
  isi : mg "isinstance" = none
  int : mg "int" = none
  bool : mg "bool" = none
  str : mg "str" = none
  tuple : mg "tuple" = none
  len : mg "len" = none
  all : mg "all" = none
  set : mg "set" = none
  long : ∃ t, mg "_LONGEST_NAME" = some (.int 8 t)
  most : ∃ t, mg "_MOST_COLUMNS" = some (.int 2 t)
  gNm : mg "is_name" = some (.ref fNm)
  kNm : PySem.W.keepIn K (.ref fNm) = true
  gNms : mg "_are_names" = some (.ref fNms)
  kNms : PySem.W.keepIn K (.ref fNms) = true
section
variable {P : Program} {w : World} {K : PySem.W.Frag} {mg : Str → Option Value} {base : Heap} {fNm fNms : Addr} {fdNm fdNms : FuncData}
theorem scIsNum : FnScope ["thing"] ["thing"] (defScope sIsNum) := ⟨rfl, rfl, rfl, by decide +kernel, rfl, by decide +kernel, by decide +kernel⟩
theorem ok_isnum {f : Addr} {fd : FuncData} (F : Fun K "is_number" "is_number" sIsNum f fd) (T : TxtP K mg fNm fNms) : FnOk P w K mg base CX0 1 f fd ["thing"] (spTest K isNum) := by
  refine F.ok scIsNum (fun vs H Q E h => ?_) (fun cdv A outer s H vs Q E hr h => ?_)
  · obtain ⟨v, t, n, bs, rfl, _⟩ := h
    rfl
  · obtain ⟨v, t, n, bs, rfl, d, k⟩ := h
    refine ⟨_, pss_one (ps_ret (pe_and (pe_callB call_isi (by rfl) T.isi (by decide +kernel) (pa_cons (pv 0) (pa_cons (pe_bltn (v := .ty "int") (by rfl) T.int (by decide +kernel) rfl) pa_nil)))
      (pe_one (pe_not (pe_callB call_isi (by rfl) T.isi (by decide +kernel) (pa_cons (pv 0) (pa_cons (pe_bltn (v := .ty "bool") (by rfl) T.bool (by decide +kernel) rfl) pa_nil))))))), ?_⟩
    refine ⟨_, rfl, v, _, _, _, isInt t, rfl, .ty _, d.ty, kit_int t, _, rfl, ?_⟩
    refine iteB (fun e => ?_) (fun e => ?_)
    · refine ⟨_, rfl, v, _, _, _, isBl t, rfl, .ty _, d.ty, kit_bl t, _, rfl, ?_⟩
      have z : (!isBl t) = isNum t := by
        cases t <;> first | rfl | cases e
      rw [z]
      exact k H (Same.refl H)
    · have z : false = isNum t := by
        cases t <;> first | rfl | cases e
      rw [z]
      exact k H (Same.refl H)
theorem scIsName : FnScope ["thing"] ["thing"] (defScope sIsName) := ⟨rfl, rfl, rfl, by decide +kernel, rfl, by decide +kernel, by decide +kernel⟩
theorem ok_isname {f : Addr} {fd : FuncData} (F : Fun K "is_name" "is_name" sIsName f fd) (T : TxtP K mg fNm fNms) : FnOk P w K mg base CX0 1 f fd ["thing"] (spTest K isNm) := by
  refine F.ok scIsName (fun vs H Q E h => ?_) (fun cdv A outer s H vs Q E hr h => ?_)
  · obtain ⟨v, t, n, bs, rfl, _⟩ := h
    rfl
  · obtain ⟨v, t, n, bs, rfl, d, k⟩ := h
    obtain ⟨tk, hN⟩ := T.long
    refine ⟨_, pss_cons (ps_if (PW.pt (pw_or (pt_not (pt_truth (pe_callB call_isi (by rfl) T.isi (by decide +kernel) (pa_cons (pv 0) (pa_cons (pe_bltn (v := .ty "str") (by rfl) T.str (by decide +kernel) rfl) pa_nil))) (fun _ => rfl)))
          (pw_or1 (pt_cmpR op_gt (pe_callB call_len_str (by rfl) T.len (by decide +kernel) (pa_cons (pv 0) pa_nil)) (pe_glob (v := .int 8) rfl hN ⟨_, rfl⟩) (nomark _)))))
        (pss_one (ps_ret pe_bl)) pss_nil)
      (pss_one (ps_ret (pe_and (pe_bm0 PySem.F.plainAttrs_str PySem.F.slot_str_isascii PySem.F.type_str_isascii mt_isascii (pv 0))
        (pe_and (pe_bm0 PySem.F.plainAttrs_str PySem.F.slot_str_isalpha PySem.F.type_str_isalpha mt_isalpha (pv 0)) (pe_one (pe_bm0 PySem.F.plainAttrs_str PySem.F.slot_str_islower PySem.F.type_str_islower mt_islower (pv 0))))))), ?_⟩
    refine ⟨_, rfl, v, _, _, _, isStr t, rfl, .ty _, d.ty, kit_str t, isStr t, rfl, ?_⟩
    have no : isNm t = false → tRet (tC (.bl false)) { nx := fun _ H' => Q .non H', rt := Q } (start ["thing"] [v]) H := fun z => by
      show Q (.bl false) H
      rw [← z]
      exact k H (Same.refl H)
    cases d with
    | @str n x h hz =>
      refine iteF ?_
      refine ⟨_, rfl, x, rfl, hz, _, _, rfl, rfl, _, rfl, ?_⟩
      refine ite_ (fun e => ?_) (fun e => ?_)
      · refine no ?_
        show nmS x = false
        unfold nmS
        rw [decide_eq_false (show ¬ x.length ≤ 8 by omega), Bool.false_and, Bool.and_false]
      · have e8 : x.length ≤ 8 := by omega
        have z := nm_prog e8
        refine ⟨_, rfl, rfl, x, rfl, rfl, True.intro, _, rfl, ?_⟩
        show if Txt.isascii x = true then _ else _
        cases e1 : Txt.isascii x with
        | false =>
          rw [e1, Bool.false_and] at z
          refine iteF ?_
          rw [z]
          exact k H (Same.refl H)
        | true =>
          rw [e1, Bool.true_and] at z
          refine iteT ?_
          refine ⟨_, rfl, rfl, x, rfl, rfl, True.intro, _, rfl, ?_⟩
          cases e2 : Txt.isalpha x with
          | false =>
            rw [e2, Bool.false_and] at z
            refine iteF ?_
            rw [z]
            exact k H (Same.refl H)
          | true =>
            rw [e2, Bool.true_and] at z
            refine iteT ?_
            refine ⟨_, rfl, rfl, x, rfl, rfl, True.intro, ?_⟩
            rw [z]
            exact k H (Same.refl H)
    | _ => exact iteT (iteT (no rfl))
theorem scAreNames : FnScope ["thing", "name"] ["thing"] (defScope sAreNames) := ⟨rfl, rfl, rfl, by decide +kernel, rfl, by decide +kernel, by decide +kernel⟩
theorem ok_arenames {f : Addr} {fd : FuncData} (F : Fun K "_are_names" "_are_names" sAreNames f fd) (T : TxtP K mg fNm fNms) (GN : FnOk P w K mg base CX0 1 fNm fdNm ["thing"] (spTest K isNm)) (bN : Binds K fdNm ["thing"] []) :
    FnOk P w K mg base CX0 2 f fd ["thing"] (spTest K areNms) := by
  refine F.ok scAreNames (fun vs H Q E h => ?_) (fun cdv A outer s H vs Q E hr h => ?_)
  · obtain ⟨v, t, n, bs, rfl, _⟩ := h
    rfl
  · obtain ⟨v, t, n, bs, rfl, d, k⟩ := h
    obtain ⟨tk, hN⟩ := T.most
    refine ⟨_, pss_one (ps_ret (pe_and (pe_callB call_isi (by rfl) T.isi (by decide +kernel) (pa_cons (pv 0) (pa_cons (pe_bltn (v := .ty "tuple") (by rfl) T.tuple (by decide +kernel) rfl) pa_nil)))
      (pe_and (pe_cmpR op_le (pe_callB call_len_seq (by rfl) T.len (by decide +kernel) (pa_cons (pv 0) pa_nil)) (pe_glob (v := .int 2) rfl hN ⟨_, rfl⟩) (nomark _))
        (pe_one (pe_callB (cr_all rfl) (by rfl) T.all (by decide +kernel) (pa_cons (pe_lc (own := [("name", 1)]) (g := gName 1) (tt := tYes) rfl scAreNames.nd (pi_tup (pv 0))
          (blkOk_by (N := ["thing", "name"]) (sc := defScope sAreNames) (by decide +kernel)) (fun _ _ _ _ _ => pg_name (i := 1) scAreNames.nd rfl (Or.inl rfl)) (fun _ _ _ _ _ => pts_nil)
          (fun _ _ _ _ _ => pe_call GN hr rfl T.gNm T.kNm bN .nil pass0 (pa_cons (pv 1) pa_nil))) pa_nil)))))), ?_⟩
    refine ⟨_, rfl, v, _, _, _, isTup t, rfl, .ty _, d.ty, kit_tup t, _, rfl, ?_⟩
    have no : areNms t = false → Q (.bl false) H := fun z => by
      rw [← z]
      exact k H (Same.refl H)
    cases ht : isTup t with
    | true =>
      obtain ⟨a, xs, ts, m, cs, rfl, rfl, _, ha, r, _⟩ := d.tupOf ht
      refine iteT ?_
      have hl := r.length
      refine ⟨_, rfl, a, xs, rfl, .inr ha, _, _, rfl, rfl, _, rfl, ?_⟩
      refine ite_ (fun e => ?_) (fun e => ?_)
      · refine ⟨_, rfl, a, rfl, ⟨_, ha⟩, fun D hD => ?_⟩
        refine lc_tup (K := K) (a := a) (xs := xs) (fun i H' => Same H H' ∧ H' D = some (.lst (((ts.take i).map isNm).map V.bl))) ⟨same_upd hD, upd_same⟩ (fun i H' _ q => sameT q.1 ha) ?_ ?_
        · rintro i y H3 hi ⟨s3, e3⟩
          refine ⟨rfl, ?_⟩
          dsimp only [tYes]
          rw [if_pos rfl]
          obtain ⟨t, cs, et, dt, _⟩ := r.get hi
          have hts : i < ts.length := by
            rcases Nat.lt_or_ge i ts.length with z | z
            · exact z
            · rw [List.getElem?_eq_none z] at et
              cases et
          refine ⟨_, rfl, y, t, _, cs, rfl, dt.same s3, fun H4 s4 => ⟨_, s4 _ _ e3, ?_, fun b o e => ?_, ?_⟩⟩
          · rw [List.length_map, List.length_map, List.length_take]
            have : sizeLine > 4 := by decide
            omega
          · rw [upd_ne (ne_of_none e hD)]
            exact s4 b o (s3 b o e)
          · rw [upd_same, List.take_add_one, et]
            simp
        · rintro H3 ⟨s3, e3⟩
          refine ⟨D, (ts.take xs.length).map isNm, rfl, SqL.of e3, ?_⟩
          have z : (((ts.take xs.length).map isNm).all id) = areNms (.tup ts) := by
            rw [hl, List.take_length]
            show _ = (decide (ts.length ≤ 2) && ts.all isNm)
            rw [decide_eq_true (by omega), Bool.true_and, List.all_map]
            rfl
          rw [z]
          exact k H3 s3
      · refine no ?_
        show (decide (ts.length ≤ 2) && ts.all isNm) = false
        rw [decide_eq_false (by omega), Bool.false_and]
    | false =>
      refine iteF (no ?_)
      cases t <;> first | rfl | cases ht
end
end Vm
namespace Vm
open PySem L2
theorem filter_add {p : Str → Bool} {ss : List Str} {i : Nat} {z : Str} (h : ss[i]? = some z) : (ss.take (i + 1)).filter p = if p z = true then (ss.take i).filter p ++ [z] else (ss.take i).filter p := by
  rw [List.take_add_one, h, List.filter_append]
  by_cases e : p z = true
  · rw [if_pos e]
    simp [e]
  · rw [if_neg e]
    simp [e]
theorem map_at {ss : List Str} {i : Nat} {y : V} (h : (ss.map V.str)[i]? = some y) : ∃ z, ss[i]? = some z ∧ y = .str z := by
  rw [List.getElem?_map] at h
  cases e : ss[i]? with
  | none => rw [e] at h; cases h
  | some u => rw [e] at h; exact ⟨u, rfl, (Option.some.inj h).symm⟩
section
variable {P : Program} {w : World} {K : PySem.W.Frag} {mg : Str → Option Value} {base : Heap} {fNm fNms : Addr} {fdNm fdNms : FuncData}
theorem scIsKey : FnScope ["thing", "columns", "column"] ["thing", "columns"] (defScope sIsKey) := ⟨rfl, rfl, rfl, by decide +kernel, rfl, by decide +kernel, by decide +kernel⟩
theorem ok_iskey {f : Addr} {fd : FuncData} (F : Fun K "_is_key" "_is_key" sIsKey f fd) (T : TxtP K mg fNm fNms) : FnOk P w K mg base CX0 1 f fd ["thing", "columns"] (spKey K) := by
  refine F.ok scIsKey (fun vs H Q E h => ?_) (fun cdv A outer s H vs Q E hr h => ?_)
  · obtain ⟨v, t, n, bs, c, ss, rfl, _⟩ := h
    rfl
  · obtain ⟨v, t, n, bs, c, ss, rfl, d, hS, h4, k⟩ := h
    have hu : (A.deeper (PyProof.Rows.envOfC "_is_key" (defScope sIsKey) s.heap.objs.size f cdv)).units + 1 < cLine := by
      have := hr.units
      omega
    refine ⟨_, pss_one (ps_ret (pe_and (pe_callB call_isi (by rfl) T.isi (by decide +kernel) (pa_cons (pv 0) (pa_cons (pe_bltn (v := .ty "tuple") (by rfl) T.tuple (by decide +kernel) rfl) pa_nil)))
      (pe_one (pe_cmpR (op_eqTS hu) (pv 0) (pe_callTy call_tuple_of (by rfl) T.tuple (by decide +kernel) (pa_cons (pe_lc (own := [("column", 2)]) (g := gName 2) rfl scIsKey.nd (pi_tup (pv 1))
          (blkOk_by (N := ["thing", "columns", "column"]) (sc := defScope sIsKey) (by decide +kernel)) (fun _ _ _ _ _ => pg_name (i := 2) scIsKey.nd rfl (Or.inl rfl))
          (fun _ _ _ _ _ => pts_one (pt_cmpR (op_inD (K := K) rfl hu) (pv 2) (pv 0) (by rfl)))
          (fun _ _ _ _ _ => pv 2)) pa_nil)) (nomark _))))), ?_⟩
    refine ⟨_, rfl, v, _, _, _, isTup t, rfl, .ty _, d.ty, kit_tup t, _, rfl, ?_⟩
    have no : isKey t ss = false → Q (.bl false) H := fun z => by
      rw [← z]
      exact k H (Same.refl H)
    cases ht : isTup t with
    | true =>
      obtain ⟨a, xs, ts, m, cs, rfl, rfl, _, ha, r, _⟩ := d.tupOf ht
      refine iteT ?_
      refine ⟨_, rfl, _, rfl, c, rfl, ⟨_, hS⟩, fun D hD => ?_⟩
      refine lc_tup (K := K) (a := c) (xs := ss.map V.str) (fun i H' => Same H H' ∧ H' D = some (.lst (((ss.take i).filter fun z => ts.any (isS z)).map V.str))) ⟨same_upd hD, upd_same⟩ (fun i H' _ q => sameT q.1 hS) ?_ ?_
      · rintro i y H3 hi ⟨s3, e3⟩
        obtain ⟨z, ez, rfl⟩ := map_at hi
        refine ⟨rfl, ?_⟩
        refine ⟨_, rfl, _, rfl, z, a, xs, ts, _, _, rfl, rfl, sameT s3 ha, r.same s3, _, rfl, ?_⟩
        have fa := filter_add (p := fun z => ts.any (isS z)) ez
        refine iteB (b := ts.any (isS z)) (fun e => ?_) (fun e => ?_)
        · refine ⟨_, rfl, _, e3, ?_, fun b o q => ?_, ?_⟩
          · rw [List.length_map]
            have l1 := List.length_filter_le (fun z => ts.any (isS z)) (ss.take i)
            have l2 : (ss.take i).length ≤ ss.length := by
              rw [List.length_take]
              omega
            have : sizeLine > 4 := by decide
            omega
          · rw [upd_ne (ne_of_none q hD)]
            exact s3 b o q
          · rw [upd_same, fa, if_pos e, List.map_append]
            rfl
        · refine ⟨s3, ?_⟩
          rw [fa, if_neg (by rw [e]; decide)]
          exact e3
      · rintro H3 ⟨s3, e3⟩
        refine ⟨D, _, rfl, .inl ⟨SqL.of e3, fun l hl => ?_⟩⟩
        have s4 := s3.trans (same_upd (o := .tup (((ss.take (ss.map V.str).length).filter fun z => ts.any (isS z)).map V.str)) hl)
        refine ⟨a, l, xs, ts, _, cs, _, rfl, rfl, sameT s4 ha, r.same s4, SqT.of upd_same, ?_⟩
        rw [List.length_map, List.take_length]
        exact k _ (by rw [List.length_map, List.take_length] at s4; exact s4)
    | false =>
      refine iteF (no ?_)
      cases t <;> first | rfl | cases ht
end
end Vm
namespace Vm
open PySem PySem.Spec PyProof.Rows
/-! len(set(t)), t a tuple of any texts -/
/-- how many different texts stand ahead of the place i -/
def many (xs : List Str) : Nat → Nat
  | 0 => 0
  | i + 1 => if (xs.take i).any (· == xs.getD i Str.empty) = true then many xs i else many xs i + 1
theorem many_le (xs : List Str) : ∀ i, many xs i ≤ i
  | 0 => Nat.le_refl _
  | i + 1 => by
    have h := many_le xs i
    unfold many
    split <;> omega
def seen (xs : List Str) (i : Nat) : Str → Bool := fun z => (xs.take i).any (· == z)
theorem seen_succ (xs : List Str) {i : Nat} (h : i < xs.length) (z : Str) : (seen xs i z || decide (z = xs.getD i Str.empty)) = seen xs (i + 1) z := by
  unfold seen
  have e : xs.getD i Str.empty = xs[i] := by
    rw [List.getD_eq_getElem?_getD, List.getElem?_eq_getElem h]
    rfl
  rw [List.take_add_one, List.getElem?_eq_getElem h, List.any_append, e]
  congr 1
  by_cases q : z = xs[i]
  · rw [decide_eq_true q, q]
    simp
  · have q2 : (xs[i] == z) = false := beq_eq_false_iff_ne.mpr fun y => q y.symm
    rw [decide_eq_false q]
    simp [q2]
section
variable {prog : Program} {w : World} {A : Around} {R : Result → Shared → Prop} {I : Addr} {fp wr : List Addr} {G : Array GenState → Array GenState → Prop} {n : Nat} {Pv : Nat → Value → Prop} {St : Nat → Shared → Prop}
theorem set_same {B : Addr} {xs : List Str} {i m : Nat} {h h' : Heap} (q : h.SetOf (strKind prog w) B (seen xs i) m) (k : ∀ o, h.get? B = some o → h'.get? B = some o) : h'.SetOf (strKind prog w) B (seen xs i) m :=
  let ⟨o, es, ep, t, ho, rest⟩ := q
  ⟨o, es, ep, t, k o ho, rest⟩
/-- the walk puts every text into the set at B -/
theorem put_all (W : WalksS prog w A.in1 I fp wr G n Pv St) (B : Addr) (off : B ∉ fp) (xs : List Str) (len : xs.length = n) (few : n < 1000) (vals : ∀ i v, Pv i v → ∃ t, v = .str (xs.getD i Str.empty) t) :
    ∀ (k i : Nat) (s : Shared), n - i = k → i ≤ n → St i s → s.heap.SetOf (strKind prog w) B (seen xs i) (many xs i) →
      (∀ s', Moved (B :: wr) G s s' → s'.heap.SetOf (strKind prog w) B (seen xs n) (many xs n) → R (.ok (.ret .none)) s') → codeAny (model prog w) A (.builtin "set.update.loop" ⟨[.ref B, .ref I], []⟩) R s
  | 0, i, s, hk, hi, at_, q, go => by
    obtain rfl : i = n := by omega
    refine codeAny_builtin PyProof.Rows.F.entry_set_update_loop ?_
    rw [Around.under_plainId PyProof.Rows.F.plain_set_update_loop _]
    show wpAny _ A.in1 (pyNext (.ref I) >>= _) _ _ _
    refine wpAny_bind (W.done s _ _ at_ fun s1 mv => ?_)
    exact wpAny_pure (go s1 (mv.mono fun b hb => List.mem_cons_of_mem _ hb) (set_same q fun o e => mv.heap B _ (fun z => off (W.sub _ z)) e))
  | k + 1, i, s, hk, hi, at_, q, go => by
    have lt : i < n := by omega
    refine codeAny_builtin PyProof.Rows.F.entry_set_update_loop ?_
    rw [Around.under_plainId PyProof.Rows.F.plain_set_update_loop _]
    show wpAny _ A.in1 (pyNext (.ref I) >>= _) _ _ _
    refine wpAny_bind (W.item i s _ _ lt at_ fun v s1 pv at1 mv => ?_)
    obtain ⟨t, rfl⟩ := vals i v pv
    have q1 := set_same (h' := s1.heap) q fun o e => mv.heap B _ (fun z => off (W.sub _ z)) e
    show wpAny _ _ (holding [Value.str (xs.getD i Str.empty) t] (setAdd B (.str (xs.getD i Str.empty) t)) >>= _) _ _ _
    refine wpAny_bind (wpAny_holding ?_)
    unfold setAdd
    refine wpAny_holding (wpAny_bind ((strKind prog w).pyHash (k := xs.getD i Str.empty) (strKind_is _ _ _ _) ?_))
    have room : many xs i + 1 < scanBound := by
      have := many_le xs i
      unfold scanBound
      omega
    refine wpAny_setAddHashed_of (knd := strKind prog w) (s := { s1 with toks := s1.toks + 1 }) (strKind_is _ _ _ _) rfl q1 room fun h2 but q2 => ?_
    have q3 : h2.SetOf (strKind prog w) B (seen xs (i + 1)) (many xs (i + 1)) := SetOf_congr q2 (fun z => seen_succ xs (by omega) z) rfl
    refine wpAny_pure ⟨plainId_quiet PyProof.Rows.F.plain_set_update_loop _, put_all W B off xs len few vals k (i + 1) _ (by omega) lt ?_ q3 fun s3 mv3 q4 => ?_⟩
    · refine W.frame _ s1 _ _ at1 (Nat.le_succ _) fun b hb o e => ?_
      rw [but.2 b fun z => off (z ▸ hb)]
      exact e
    · refine go s3 (Moved.trans W.gtrans ((mv.mono fun b hb => List.mem_cons_of_mem _ hb).then_heap (Nat.le_succ _) fun b o hb e => ?_) mv3) q4
      rw [but.2 b fun z => hb (z ▸ List.mem_cons_self)]
      exact e
end
section
variable {prog : Program} {w : World} {A : Around} {E : Value → Shared → Prop} {s : Shared}
abbrev newSet (led : Bool) : Obj := { cls := .type "set", dict := none, data := .set #[] 0 (.fresh 0 0 led) }
abbrev Ready (prog : Program) (w : World) (s : Shared) (xs : List Str) (t : Shared) : Prop := ∃ h' tk, t = { s with heap := h', toks := tk } ∧ h'.SetOf (strKind prog w) s.heap.objs.size (seen xs xs.length) (many xs xs.length) ∧
  ∀ b o, b < s.heap.objs.size → s.heap.get? b = some o → h'.get? b = some o
/-- the body of __init__ -/
theorem fill_set {l : Addr} {items : Array Value} {xs : List Str} {led : Bool} {Q : PySem.Fin → Shared → Prop} (hh : A.handled = none) (hl : s.heap.IsTuple l items) (hi : StrsAre items.toList xs) (few : xs.length < 1000)
    (go : ∀ t, Ready prog w s xs t → Q (.done (.ret .none)) t) : wpAny (model prog w) A (Builtin.«set.__init__» ⟨[.ref s.heap.objs.size, .ref l], []⟩) Q E { s with heap := s.heap.push (newSet led) } := by
  have at_l : l < s.heap.objs.size := let ⟨_, e, _⟩ := hl; Heap.lt_size e
  obtain ⟨⟨c, dd, dt, sl⟩, e, hc, m, hd⟩ := hl
  dsimp only at hc hd
  subst hc hd
  have e1 : (s.heap.push (newSet led)).get? l = some { cls := .type "tuple", dict := dd, data := .seq items m, slots := sl } := Heap.get?_push_of_some _ e
  have eB : (s.heap.push (newSet led)).get? s.heap.objs.size = some (newSet led) := Heap.get?_push_size _ rfl
  have tup : (s.heap.push (newSet led)).IsTuple l items := ⟨_, e1, rfl, m, rfl⟩
  have no1 := PySem.F.sub_tuple_set
  have no2 := PySem.F.sub_tuple_frozenset
  have no3 : (Value.type "tuple" == Value.type "dict") = false := by decide
  unfold Builtin.«set.__init__» noKeywords Builtin.Frozenset.updateFrom
  generalize hIt : pyIter = It
  wp_walk
  subst hIt
  refine wpAny_pyIter_tuple tup (wpAny_bind (wpAny_runValue ?_))
  have sz : (s.heap.push (newSet led)).objs.size = s.heap.objs.size + 1 := Heap.size_push _ _
  have apart : l ≠ (s.heap.push (newSet led)).objs.size := by
    rw [sz]
    exact Nat.ne_of_lt (Nat.lt_succ_of_lt at_l)
  have out : s.heap.objs.size ∉ [(s.heap.push (newSet led)).objs.size, l] := by
    rw [sz]
    intro z
    rcases List.mem_cons.mp z with z | z
    · exact absurd z (Nat.ne_of_lt (Nat.lt_succ_self _))
    · exact absurd (List.mem_singleton.mp z) (Nat.ne_of_gt at_l)
  have len : xs.length = items.size := by rw [← StrsAre.len_eq hi, Array.length_toList]
  have calm : A.in1.handled = none := by simp [hh]
  refine put_all ((Walks.tuple calm _ l apart items).toS) s.heap.objs.size out xs len (by omega) (fun i v hv => SS.strs_at hi i v (by rw [Array.getElem?_toList]; exact hv)) (items.size - 0) 0 _ (by omega) (Nat.zero_le _)
    ?here ?first ?last
  case here => exact ⟨⟨_, Heap.get?_push_size _ rfl, rfl, rfl⟩, tup.push _⟩
  case first => exact SetOf_congr ((setObjOf_fresh (knd := strKind prog w) led).setOf (Heap.get?_push_of_some _ eB) (by unfold scanBound; omega)) (fun _ => rfl) rfl
  case last =>
    intro t mv q
    obtain ⟨h', g', d', tk', os'⟩ := t
    obtain rfl : g' = s.gens := mv.gens
    obtain rfl : d' = s.drawn := mv.drawn
    obtain rfl : os' = s.os := mv.os
    show wpAny _ _ _ _ _ _
    refine wpAny_pure ?_
    show wpAny _ _ (ret Value.none) _ _ _
    refine wpAny_pure (go _ ⟨h', tk', rfl, by rw [len]; exact q, fun b o lt eb => ?_⟩)
    refine mv.heap b o (fun z => ?_) (Heap.get?_push_of_some _ (Heap.get?_push_of_some _ eb))
    rcases List.mem_cons.mp z with z | z
    · exact absurd z (Nat.ne_of_lt lt)
    · have z2 := List.mem_singleton.mp z
      rw [sz] at z2
      exact absurd z2 (Nat.ne_of_lt (Nat.lt_succ_of_lt lt))
end
section
variable {prog : Program} {w : World} {A : Around} {E : Value → Shared → Prop} {s : Shared}
/-- set(t) -/
theorem set_tuple {l : Addr} {items : Array Value} {xs : List Str} {Q : Value → Shared → Prop} (hh : A.handled = none) (hl : s.heap.IsTuple l items) (hi : StrsAre items.toList xs) (few : xs.length < 1000)
    (go : ∀ t, Ready prog w s xs t → Q (.ref s.heap.objs.size) t) : wpAny (model prog w) A (call (.type "set") [.ref l]) Q E s := by
  have F0 := PySem.F.called_set
  obtain ⟨c, tl, order⟩ := F0.mro
  have g1 := F0.made
  have g2 := F0.sub
  refine wpAny_call (codeAny_of_tree ?_)
  show wpAny _ _ (callAny (.type "set") _) _ _ _
  refine wpAny_pure ⟨Code.quiet_builtin _ (by decide +kernel), codeAny_builtin PySem.F.entry_type_call ?_⟩
  rw [Around.under_plain (weight_type_call_type "set" [.ref l] []) rfl]
  have g3 := F0.notType
  have g4 := F0.canCreate
  have g5 := PySem.F.typeCall_set_1 (.ref l)
  repeat (any_goals (first | assumption | wp_step))
  refine codeAny_mono (code_set_new_1 (.ref l) (E := E) (Q₁ := fun made s₁ => ∃ led : Bool, made = .ref s.heap.objs.size ∧ s₁ = { s with heap := s.heap.push (newSet led) }) fun led => ⟨led, rfl, rfl⟩) fun r s₁ hr => ?_
  match r, hr with
  | .error e, hr => exact hr
  | .ok (.ret made), hr =>
    obtain ⟨led, rfl, rfl⟩ := hr
    have eB : (s.heap.push (newSet led)).get? s.heap.objs.size = some (newSet led) := Heap.get?_push_size _ rfl
    have ty : Shared.TypeIs { s with heap := s.heap.push (newSet led) } (.ref s.heap.objs.size) "set" := ⟨_, eB, rfl⟩
    have g6 := F0.init.lookup
    have g7 := F0.init.bind (.ref s.heap.objs.size)
    repeat (any_goals (first | assumption | wp_step))
    refine codeAny_mono (codeAny_call_builtin (R := wants (fun r t => r = .none ∧ Ready prog w s xs t) E) F0.init.plain PySem.F.entry_set_init (check_set_init_1 ty ?_)) fun r₂ t hr₂ => ?_
    · refine fill_set (by simp [hh]) hl hi few fun t q => ?_
      exact ⟨rfl, q⟩
    · match r₂, hr₂ with
      | .error e, hr₂ => exact hr₂
      | .ok (.ret r), hr₂ =>
        obtain ⟨rfl, q⟩ := hr₂
        have go' := go _ q
        repeat (any_goals (first | assumption | wp_step))
end
section
open L2
variable {X : Cx}
/-- what len(set(t)) asks -/
def tManyT (K : PySem.W.Frag) (ta : TE) : TE := fun σ H Q => ta σ H fun x H1 => ∃ (l : Addr) (xs : List Str), x = .ref l ∧ SqT K H1 l (xs.map V.str) ∧ xs.length < 1000 ∧ Q (.int (many xs xs.length)) H1
theorem pe_many {a : Expr} {ta : TE} {p p2 q pos : Pos} (hc : X.calm = true) (hg : Gl X "len") (hm : X.mg "len" = none) (hg2 : Gl X "set") (hm2 : X.mg "set" = none) (ha : PE X a ta)
    (na : starEach [a] X.env = (false, eval a X.env) :: starEach [] X.env := by rfl) : PE X (.Call (.Name "len" p) [.Call (.Name "set" p2) [a] [] q] [] pos) (tManyT X.K ta) := by
  constructor
  intro pins s σ H Q I h
  refine Call_ (ld_blt I hg hm boot_len (PyProof.Rows.callWith_builtin1 (PyProof.Rows.args_cons (Call_ (ld_blt I hg2 hm2 boot_set ?_)) rfl) rfl rfl))
  refine PyProof.Rows.callWith_type1 (PyProof.Rows.args_cons (thn (ha.run pins s σ H _ I h) ?_) na) na rfl
  rintro v s1 ⟨x, H1, I1, r1, l, xs, rfl, hq, few, want⟩
  cases r1
  refine PyProof.Rows.args_nil ?_
  obtain ⟨its, r, pl, _⟩ := I1.tuple hq
  refine set_tuple (I1.ok.hd hc) pl (by simpa using strsAre_of r) few ?_
  rintro t ⟨h', tk, rfl, ⟨o, es, ep, tb, ho, hex, hd, _, _, _, hf, hn⟩, kept⟩
  refine PyProof.Rows.args_nil ?_
  have I2 : Inv X pins σ H1 { s1 with heap := h', toks := tk } := I1.kept fun b o e => kept b o (Heap.lt_size e) e
  have le := many_le xs xs.length
  exact call_len_set ho hex hd hf (by rw [hn]; omega) ⟨.int (many xs xs.length), H1, I2.tok _, ⟨_, by rw [hn]⟩, want⟩
end
/-- all different -/
theorem many_all {xs : List Str} : ∀ {i : Nat}, i ≤ xs.length → (many xs i = i ↔ (xs.take i).Nodup)
  | 0, _ => by simp [many]
  | i + 1, h => by
    have ih := many_all (xs := xs) (i := i) (by omega)
    have le := many_le xs i
    have e : xs.getD i Str.empty = xs[i] := by
      rw [List.getD_eq_getElem?_getD, List.getElem?_eq_getElem (by omega)]
      rfl
    rw [List.take_add_one, List.getElem?_eq_getElem (show i < xs.length by omega)]
    unfold many
    rw [e]
    by_cases m : (xs.take i).any (· == xs[i]) = true
    · rw [if_pos m]
      obtain ⟨y, hy, ey⟩ := List.any_eq_true.mp m
      have ey2 : y = xs[i] := beq_iff_eq.mp ey
      refine ⟨fun z => by omega, fun z => ?_⟩
      have z2 := (List.nodup_append.mp z).2.2 y hy xs[i] (by simp)
      exact absurd ey2 z2
    · rw [if_neg m]
      refine ⟨fun z => ?_, fun z => ?_⟩
      · have d := ih.mp (by omega)
        refine List.nodup_append.mpr ⟨d, by simp, fun y hy y2 hy2 q => m ?_⟩
        have q2 : y2 = xs[i] := by simpa using hy2
        exact List.any_eq_true.mpr ⟨y, hy, beq_iff_eq.mpr (q.trans q2)⟩
      · have d := ih.mpr (List.nodup_append.mp z).1
        omega
end Vm
namespace Vm
open PySem L2
/-- all are names: texts -/
theorem DtAll.names {K : PySem.W.Frag} {H : Hp} : ∀ {xs : List V} {ts : List Tr} {n : Nat} {bs : List Addr}, DtAll K H xs ts n bs → ts.all isNm = true → ∃ ss : List Str, ts = ss.map Tr.str ∧ xs = ss.map V.str ∧ ss.all nmS = true
  | _, _, _, _, .nil, _ => ⟨[], rfl, rfl, rfl⟩
  | _, t :: _, _, _, .cons h r, e => by
    rw [List.all_cons, Bool.and_eq_true] at e
    obtain ⟨ss, e1, e2, e3⟩ := r.names e.2
    cases h with
    | @str _ x h1 h2 => exact ⟨x :: ss, by rw [e1]; rfl, by rw [e2]; rfl, by rw [List.all_cons, e3, Bool.and_true]; exact e.1⟩
    | _ => cases e.1
/-- .. that tuple -/
theorem Dt.names {K : PySem.W.Frag} {H : Hp} {v : V} {t : Tr} {n : Nat} {bs : List Addr} (d : Dt K H v t n bs) (h : areNms t = true) : ∃ (a : Addr) (ss : List Str), v = .ref a ∧ t = .tup (ss.map Tr.str) ∧ TupE K H a (ss.map V.str) ∧ ss.length ≤ 2 ∧ ss.all nmS = true := by
  have ht : isTup t = true := by
    cases t <;> first | rfl | cases h
  obtain ⟨a, xs, ts, m, cs, rfl, rfl, _, ha, r, _⟩ := d.tupD ht
  have h2 : (decide (ts.length ≤ 2) && ts.all isNm) = true := h
  rw [Bool.and_eq_true, decide_eq_true_eq] at h2
  obtain ⟨ss, rfl, rfl, e3⟩ := r.names h2.2
  exact ⟨a, ss, rfl, rfl, ha, by simpa using h2.1, e3⟩
def strOf : Tr → Option Str
  | .str x => some x
  | _ => none
def strsOf : Tr → List Str
  | .tup ts => ts.filterMap strOf
  | _ => []
theorem strsOf_map (ss : List Str) : strsOf (.tup (ss.map Tr.str)) = ss := by
  show (ss.map Tr.str).filterMap strOf = ss
  rw [List.filterMap_map]
  exact List.filterMap_some
def colsOk (ss : List Str) : Bool := decide (0 < ss.length) && decide ss.Nodup
def areCols (t1 t2 : Tr) : Bool := areNms t1 && (areNms t2 && colsOk (strsOf t1 ++ strsOf t2))
def spCols (K : PySem.W.Frag) : Sp := fun vs H Q _ => ∃ (v1 v2 : V) (t1 t2 : Tr) (n1 n2 : Nat) (b1 b2 : List Addr), vs = [v1, v2] ∧ Dt K H v1 t1 n1 b1 ∧ Dt K H v2 t2 n2 b2 ∧ ∀ H', Same H H' → Q (.bl (areCols t1 t2)) H'
section
variable {X : Cx}
/-- t + u, of texts -/
def rCatS (K : PySem.W.Frag) : R2 := fun x y H Q => ∃ (a b : Addr) (ss zs : List Str), x = .ref a ∧ y = .ref b ∧ SqT K H a (ss.map V.str) ∧ SqT K H b (zs.map V.str) ∧ ss.length + zs.length ≤ sizeLine ∧
  ∀ (q : Addr) (H' : Hp), Same H H' → SqT K H' q ((ss ++ zs).map V.str) → Q (.ref q) H'
theorem op_catS : OpR X (binaryOp .Add) (rCatS X.K) := by
  intro pins s σ H x y v u Q I rx ry h
  obtain ⟨a, b, ss, zs, rfl, rfl, ha, hb, hz, q⟩ := h
  refine op_catA pins s σ H _ _ v u Q I rx ry ⟨a, b, _, _, rfl, rfl, ha, hb, by simpa using hz, fun e => ?_, fun _ e => ?_, fun _ _ p hp => ?_⟩
  · have e2 : ss = [] := by simpa using e
    subst e2
    exact q b H (Same.refl H) hb
  · have e2 : zs = [] := by simpa using e
    subst e2
    refine q a H (Same.refl H) ?_
    rw [List.append_nil]
    exact ha
  · refine q p _ (same_upd hp) ?_
    rw [List.map_append]
    exact SqT.of upd_same
/-- t + u, of tuples that were made here -/
def rCatE (K : PySem.W.Frag) : R2 := fun x y H Q => ∃ (a b : Addr) (xs ys : List V), x = .ref a ∧ y = .ref b ∧ TupE K H a xs ∧ TupE K H b ys ∧ xs.length + ys.length ≤ sizeLine ∧
  ∀ (q : Addr) (H' : Hp), Same H H' → TupE K H' q (xs ++ ys) → (q = a ∨ q = b ∨ H q = none) → Q (.ref q) H'
theorem op_catE : OpR X (binaryOp .Add) (rCatE X.K) := by
  intro pins s σ H x y v u Q I rx ry h
  obtain ⟨a, b, xs, ys, rfl, rfl, ha, hb, hz, q⟩ := h
  refine op_catF pins s σ H _ _ v u Q I rx ry ⟨a, b, _, _, rfl, rfl, ha.sq, hb.sq, hz, fun e => ?_, fun _ e => ?_, fun _ _ p o hp hd => ?_⟩
  · subst e
    exact q b H (Same.refl H) hb (.inr (.inl rfl))
  · subst e
    refine q a H (Same.refl H) ?_ (.inl rfl)
    rw [List.append_nil]
    exact ha
  · exact q p _ (same_upd hp) (.inr ⟨o, upd_same, hd⟩) (.inr (.inr hp))
end
section
variable {P : Program} {w : World} {K : PySem.W.Frag} {mg : Str → Option Value} {base : Heap} {fNm fNms : Addr} {fdNm fdNms : FuncData}
theorem scAreCols : FnScope ["names", "numbers", "columns"] ["names", "numbers"] (defScope sAreCols) := ⟨rfl, rfl, rfl, by decide +kernel, rfl, by decide +kernel, by decide +kernel⟩
theorem ok_arecols {f : Addr} {fd : FuncData} (F : Fun K "_are_columns" "_are_columns" sAreCols f fd) (T : TxtP K mg fNm fNms) (GN : FnOk P w K mg base CX0 2 fNms fdNms ["thing"] (spTest K areNms)) (bN : Binds K fdNms ["thing"] []) :
    FnOk P w K mg base CX0 3 f fd ["names", "numbers"] (spCols K) := by
  refine F.ok scAreCols (fun vs H Q E h => ?_) (fun cdv A outer s H vs Q E hr h => ?_)
  · obtain ⟨v1, v2, t1, t2, n1, n2, b1, b2, rfl, _⟩ := h
    rfl
  · obtain ⟨v1, v2, t1, t2, n1, n2, b1, b2, rfl, d1, d2, k⟩ := h
    refine ⟨_, pss_cons (ps_if (pt_not (PW.pt (pw_and (pt_truth (pe_call GN hr rfl T.gNms T.kNms bN .nil pass0 (pa_cons (pv 0) pa_nil)) (fun _ => rfl)) (pw_and1 (pt_truth (pe_call GN hr rfl T.gNms T.kNms bN .nil pass0 (pa_cons (pv 1) pa_nil)) (fun _ => rfl))))))
        (pss_one (ps_ret pe_bl)) pss_nil)
      (pss_cons (ps_set (i := 2) scAreCols.nd rfl (Or.inl rfl) (pe_op op_catS (pv 0) (pv 1)))
      (pss_one (ps_ret (pe_and (pe_cmpR op_gt (pe_callB call_len_seq (by rfl) T.len (by decide +kernel) (pa_cons (pv 2) pa_nil)) pe_int (nomark _))
        (pe_one (pe_cmpR op_eq (pe_many rfl rfl T.len rfl T.set (pv 2)) (pe_callB call_len_seq (by rfl) T.len (by decide +kernel) (pa_cons (pv 2) pa_nil)) (nomark _))))))), ?_⟩
    refine ⟨_, rfl, v1, t1, n1, b1, rfl, d1, fun H1 s1 => ⟨areNms t1, rfl, ?_⟩⟩
    refine iteB (fun e1 => ?_) (fun e1 => ?_)
    · refine ⟨_, rfl, v2, t2, n2, b2, rfl, d2.same s1, fun H2 s2 => ⟨areNms t2, rfl, ?_⟩⟩
      have s12 := s1.trans s2
      cases e2 : areNms t2 with
      | false =>
        refine iteT ?_
        show Q (.bl false) H2
        have z : areCols t1 t2 = false := by
          unfold areCols
          rw [e2, Bool.false_and, Bool.and_false]
        rw [← z]
        exact k H2 s12
      | true =>
        refine iteF ?_
        obtain ⟨a, ss, rfl, rfl, ha, la, _⟩ := d1.names e1
        obtain ⟨b, zs, rfl, rfl, hb, lb, _⟩ := d2.names e2
        have ha := ha.sq
        have hb := hb.sq
        have z : areCols (.tup (ss.map Tr.str)) (.tup (zs.map Tr.str)) = colsOk (ss ++ zs) := by
          unfold areCols
          rw [e1, e2, Bool.true_and, Bool.true_and, strsOf_map, strsOf_map]
        rw [z] at k
        refine ⟨_, rfl, _, rfl, a, b, ss, zs, rfl, rfl, sameT s12 ha, sameT s12 hb, ?_, fun q H3 s3 hq => ?_⟩
        · have : sizeLine > 4 := by decide
          omega
        have s13 := s12.trans s3
        refine ⟨_, rfl, q, _, rfl, .inr hq, _, _, rfl, rfl, _, rfl, ?_⟩
        rw [List.length_map]
        refine ite_ (fun c => ?_) (fun c => ?_)
        · refine ⟨_, rfl, q, ss ++ zs, rfl, hq, by rw [List.length_append]; omega, _, rfl, q, _, rfl, .inr hq, rfl, ?_⟩
          rw [List.length_map]
          have m := many_all (xs := ss ++ zs) (Nat.le_refl _)
          rw [List.take_length] at m
          have z2 : decide (V.int (many (ss ++ zs) (ss ++ zs).length : Nat) = V.int ((ss ++ zs).length : Nat)) = colsOk (ss ++ zs) := by
            unfold colsOk
            rw [decide_eq_true (show 0 < (ss ++ zs).length by omega), Bool.true_and]
            by_cases nd : (ss ++ zs).Nodup
            · rw [decide_eq_true nd, m.mpr nd]
              exact decide_eq_true rfl
            · rw [decide_eq_false nd]
              refine decide_eq_false fun y => nd (m.mp ?_)
              have := V.int.inj y
              omega
          show Q (.bl (decide (V.int (many (ss ++ zs) (ss ++ zs).length : Nat) = V.int ((ss ++ zs).length : Nat)))) H3
          rw [z2]
          exact k H3 s13
        · have z3 : colsOk (ss ++ zs) = false := by
            unfold colsOk
            rw [decide_eq_false (show ¬ 0 < (ss ++ zs).length by omega), Bool.false_and]
          rw [z3] at k
          exact k H3 s13
    · refine iteT ?_
      show Q (.bl false) H1
      have z : areCols t1 t2 = false := by
        unfold areCols
        rw [e1, Bool.false_and]
      rw [← z]
      exact k H1 s1
end
end Vm
namespace Vm
open PySem L2
abbrev sInit : Stmt := inClass (top 9) 0
abbrev sColumns : Stmt := inClass (top 9) 1
abbrev sIsRow : Stmt := inClass (top 9) 2
abbrev sClash : Stmt := inClass (top 9) 3
abbrev sEq : Stmt := inClass (top 9) 4
section
variable {X : Cx}
/-- C(), an own exception class without __init__ -/
theorem pe_xbare {C : Addr} {bmB : List Value} {B nid initId : String} {x : Str} {p pos : Pos} (F : ExcBaseFacts B nid initId bmB) (q : PySem.W.excIn X.K C bmB nid = true) (gC : X.mg x = some (.ref C)) (kC : PySem.W.keepIn X.K (.ref C) = true) (hg : Gl X x)
    (hdb : (x == ("__debug__" : Str)) = false := by decide) : PE X (.Call (.Name x p) [] [] pos) (fun _ H Q => ∀ a, H a = none → Q (.ref a) (upd H a (ExO (.ref C) a))) := by
  refine ⟨fun pins s σ H Q I h => ?_⟩
  refine wpAny_Call_Name_kw (ld_glob I hg gC ?_ hdb)
  refine PySem.W.callWith_K0 I.kIn kC ?_
  show wpAny _ _ (call (.ref C) []) _ _ _
  obtain ⟨bm, N, nm, qn, bs, hdct, sn, sub, ab, col, dd, k0, k1, k2, k3, k5, mN, hC, hN, hni, T⟩ := exc_obj I.kIn q
  refine wpAny_call_exc_subT F T hC hN hni (fun h' a hm => ?_) (Nat.zero_le _)
  have hn : H a = none := I.hok.gone hm.new
  obtain ⟨t, ht, _, _⟩ := hm.there
  exact ⟨.ref a, upd H a (ExO (.ref C) a), I.laidN hm.keeps hm.new hn (exO_ok ht ⟨rfl, rfl⟩ rfl rfl rfl (show 4 < 6 by decide)), rfl, h a hn⟩
end
/-- four values that make a table -/
def valid (t1 t2 t3 t4 : Tr) : Bool := isNm t1 && (areCols t2 t3 && isKey t4 (strsOf t2 ++ strsOf t3))
abbrev flds (v1 v2 v3 v4 : V) : List (Str × V) := [("name", v1), ("names", v2), ("numbers", v3), ("key", v4)]
/-- what the written part says of the class Table, of InvalidTable -/
structure TxtT (K : PySem.W.Frag) (mg : Str → Option Value) (C CI fCols fKey : Addr) : Prop where
  cl : Cls K C
  n1 : NoAttr K C "name"
  n2 : NoAttr K C "names"
  n3 : NoAttr K C "numbers"
  n4 : NoAttr K C "key"
  gC : mg "Table" = some (.ref C)
  gI : mg "InvalidTable" = some (.ref CI)
  kI : PySem.W.keepIn K (.ref CI) = true
  xI : PySem.W.excIn K CI [.type "ValueError", .type "Exception", .type "BaseException", .type "object"] "ValueError.__new__" = true
  bI : PySem.W.subIn K (.ref CI) (.type "BaseException") = some true
  tI : PySem.W.typeIn K (.ref CI) = some (.type "type")
  gCols : mg "_are_columns" = some (.ref fCols)
  kCols : PySem.W.keepIn K (.ref fCols) = true
  gKey : mg "_is_key" = some (.ref fKey)
  kKey : PySem.W.keepIn K (.ref fKey) = true
def spInit (K : PySem.W.Frag) (C CI : Addr) : Sp := fun vs H Q E => ∃ (e dx : Addr) (v1 v2 v3 v4 : V) (t1 t2 t3 t4 : Tr) (n1 n2 n3 n4 : Nat) (b1 b2 b3 b4 : List Addr), vs = [.ref e, v1, v2, v3, v4] ∧ H e = some (.ins C dx []) ∧
  Dt K H v1 t1 n1 b1 ∧ Dt K H v2 t2 n2 b2 ∧ Dt K H v3 t3 n3 b3 ∧ Dt K H v4 t4 n4 b4 ∧
  (valid t1 t2 t3 t4 = true → ∀ H', (∀ b o, b ≠ e → H b = some o → H' b = some o) → H' e = some (.ins C dx (flds v1 v2 v3 v4)) → Q .non H') ∧ (valid t1 t2 t3 t4 = false → ∀ H', Same H H' → E (.ref CI) none H')
section
variable {P : Program} {w : World} {K : PySem.W.Frag} {mg : Str → Option Value} {base : Heap} {fNm fNms fCols fKey C CI : Addr} {fdNm fdCols fdKey : FuncData}
theorem scInit : FnScope ["self", "name", "names", "numbers", "key"] ["self", "name", "names", "numbers", "key"] (defScope sInit) := ⟨rfl, rfl, rfl, by decide +kernel, rfl, by decide +kernel, by decide +kernel⟩
theorem ok_init {f : Addr} {fd : FuncData} {dvs : List V} {kws : List (Str × V)} (F : FunD K "__init__" "Table.__init__" (defArgs sInit) (defBody sInit) (defScope sInit) dvs kws f fd) (T : TxtP K mg fNm fNms) (U : TxtT K mg C CI fCols fKey)
    (GN : FnOk P w K mg base CX0 1 fNm fdNm ["thing"] (spTest K isNm)) (bN : Binds K fdNm ["thing"] []) (GC : FnOk P w K mg base CX0 3 fCols fdCols ["names", "numbers"] (spCols K)) (bC : Binds K fdCols ["names", "numbers"] [])
    (GK : FnOk P w K mg base CX0 1 fKey fdKey ["thing", "columns"] (spKey K)) (bK : Binds K fdKey ["thing", "columns"] []) :
    FnOk P w K mg base (L2.CX P w) 4 f fd ["self", "name", "names", "numbers", "key"] (spInit K C CI) := by
  refine F.ok scInit (fun vs H Q E h => ?_) (fun cdv A outer s H vs Q E hr h => ?_)
  · obtain ⟨e, dx, v1, v2, v3, v4, t1, t2, t3, t4, n1, n2, n3, n4, b1, b2, b3, b4, rfl, _⟩ := h
    rfl
  · obtain ⟨e, dx, v1, v2, v3, v4, t1, t2, t3, t4, n1, n2, n3, n4, b1, b2, b3, b4, rfl, he, d1, d2, d3, d4, yes, no⟩ := h
    have hr1 : Room 1 _ := hr.mono (by decide)
    refine ⟨_, pss_cons (ps_if (pt_not (PW.pt (pw_and (pt_truth (pe_call GN hr1 rfl T.gNm T.kNm bN .nil pass0 (pa_cons (pv 1) pa_nil)) (fun _ => rfl))
          (pw_and (pt_truth (pe_call GC hr rfl U.gCols U.kCols bC .nil pass0 (pa_cons (pv 2) (pa_cons (pv 3) pa_nil))) (fun _ => rfl))
          (pw_and1 (pt_truth (pe_call GK hr1 rfl U.gKey U.kKey bK .nil pass0 (pa_cons (pv 4) (pa_cons (pe_op op_catS (pv 2) (pv 3)) pa_nil))) (fun _ => rfl)))))))
        (pss_one (ps_raise rfl (takes_of rfl rfl rfl rfl) (pmk_ret rfl (pe_xbare PySem.F.excBase_ValueError U.xI U.gI U.kI rfl)))) pss_nil)
      (pss_cons (ps_fld (pv 0) (pv 1) rfl) (pss_cons (ps_fld (pv 0) (pv 2) rfl) (pss_cons (ps_fld (pv 0) (pv 3) rfl) (pss_one (ps_fld (pv 0) (pv 4) rfl))))), ?_⟩
    have bad : valid t1 t2 t3 t4 = false → ∀ H', Same H H' → ∀ a, H' a = none → ∃ (a' : Addr) (cls : Value), V.ref a = .ref a' ∧ upd H' a (ExO (.ref CI) a) a' = some (ExO cls a') ∧ Fr0 H a' ∧
        Raises (cxOf (L2.CX P w) P w K mg base ["self", "name", "names", "numbers", "key"] "Table.__init__" (defScope sInit) f cdv A outer s H E) cls ∧ E cls none (delH (upd H' a (ExO (.ref CI) a)) a') := fun z H' s' a na => by
      refine ⟨a, .ref CI, rfl, upd_same, ?_, raises_own U.bI U.tI, ?_⟩
      · exact fr0_none (s'.free na)
      · rw [delH_new na]
        exact no z H' s'
    refine ⟨_, rfl, v1, t1, n1, b1, rfl, d1, fun H1 s1 => ⟨isNm t1, rfl, ?_⟩⟩
    refine iteB (fun e1 => ?_) (fun e1 => ?_)
    · refine ⟨_, rfl, _, rfl, v2, v3, t2, t3, n2, n3, b2, b3, rfl, d2.same s1, d3.same s1, fun H2 s2 => ⟨areCols t2 t3, rfl, ?_⟩⟩
      have s12 := s1.trans s2
      refine iteB (fun e2 => ?_) (fun e2 => ?_)
      · have e2' := e2
        unfold areCols at e2'
        rw [Bool.and_eq_true, Bool.and_eq_true] at e2'
        obtain ⟨a, ss, rfl, rfl, ha, la, _⟩ := d2.names e2'.1
        obtain ⟨b, zs, rfl, rfl, hb, lb, _⟩ := d3.names e2'.2.1
        have ha := ha.sq
        have hb := hb.sq
        have l4 : ss.length + zs.length ≤ 4 := by omega
        refine ⟨_, rfl, _, rfl, _, rfl, a, b, ss, zs, rfl, rfl, sameT s12 ha, sameT s12 hb, ?_, fun q H3 s3 hq => ?_⟩
        · have : sizeLine > 4 := by decide
          omega
        have s13 := s12.trans s3
        refine ⟨v4, t4, n4, b4, q, ss ++ zs, rfl, d4.same s13, hq, by rw [List.length_append]; exact l4, fun H4 s4 => ⟨isKey t4 (ss ++ zs), rfl, ?_⟩⟩
        have s14 := s13.trans s4
        have z : valid t1 (.tup (ss.map Tr.str)) (.tup (zs.map Tr.str)) t4 = isKey t4 (ss ++ zs) := by
          unfold valid
          rw [e1, e2, Bool.true_and, Bool.true_and, strsOf_map, strsOf_map]
        cases e3 : isKey t4 (ss ++ zs) with
        | false =>
          refine iteT ?_
          exact bad (z.trans e3) H4 s14
        | true =>
          refine iteF ?_
          refine ⟨_, rfl, _, rfl, e, C, dx, _, rfl, s14 _ _ he, U.cl, U.n1, by decide, ?_⟩
          refine ⟨_, rfl, _, rfl, e, C, dx, _, rfl, upd_same, U.cl, U.n2, (by show 1 < 1000; decide), ?_⟩
          refine ⟨_, rfl, _, rfl, e, C, dx, _, rfl, upd_same, U.cl, U.n3, (by show 2 < 1000; decide), ?_⟩
          refine ⟨_, rfl, _, rfl, e, C, dx, _, rfl, upd_same, U.cl, U.n4, (by show 3 < 1000; decide), ?_⟩
          refine yes (z.trans e3) _ (fun b o nb q => ?_) upd_same
          rw [upd_ne nb, upd_ne nb, upd_ne nb, upd_ne nb]
          exact s14 b o q
      · refine iteT ?_
        refine bad ?_ H2 s12
        unfold valid
        rw [e2, Bool.false_and, Bool.and_false]
    · refine iteT ?_
      refine bad ?_ H1 s1
      unfold valid
      rw [e1, Bool.false_and]
end
end Vm
namespace Vm
open PySem L2
/-- a table stands at a -/
structure Tb (K : PySem.W.Frag) (H : Hp) (C a : Addr) (nm : Str) (ss zs ks : List Str) : Prop where
  ex : ∃ dx a2 a3 a4, H a = some (.ins C dx (flds (.str nm) (.ref a2) (.ref a3) (.ref a4))) ∧ TupE K H a2 (ss.map V.str) ∧ TupE K H a3 (zs.map V.str) ∧ TupE K H a4 (ks.map V.str)
  l2 : ss.length ≤ 2
  l3 : zs.length ≤ 2
  l4 : ks.length ≤ 4
theorem Tb.same {K : PySem.W.Frag} {H H' : Hp} {C a : Addr} {nm : Str} {ss zs ks : List Str} (t : Tb K H C a nm ss zs ks) (k : Same H H') : Tb K H' C a nm ss zs ks := by
  obtain ⟨⟨dx, a2, a3, a4, h, h2, h3, h4⟩, l2, l3, l4⟩ := t
  exact ⟨⟨dx, a2, a3, a4, k _ _ h, h2.same k, h3.same k, h4.same k⟩, l2, l3, l4⟩
def isRow (a b : Nat) : Tr → Bool
  | .tup ts => decide (ts.length = a + b) && ((ts.take a).all isNm && (ts.drop a).all isNum)
  | _ => false
def spRow (K : PySem.W.Frag) (C : Addr) : Sp := fun vs H Q _ => ∃ (a : Addr) (nm : Str) (ss zs ks : List Str) (v : V) (t : Tr) (n : Nat) (bs : List Addr), vs = [.ref a, v] ∧ Tb K H C a nm ss zs ks ∧ Dt K H v t n bs ∧
  ∀ H', Same H H' → Q (.bl (isRow ss.length zs.length t)) H'
theorem cut_take (xs : List V) (k : Nat) : cutV xs none (some (k : Int)) = xs.take k := by
  have e := HT.sIx_nat xs.length xs.length k
  unfold cutV
  rw [e]
  show (xs.drop 0).take (min k xs.length - 0) = _
  rw [List.drop_zero, Nat.sub_zero, List.take_eq_take_iff.mpr]
  omega
theorem cut_drop (xs : List V) (k : Nat) : cutV xs (some (k : Int)) none = xs.drop k := by
  have e := HT.sIx_nat xs.length 0 k
  unfold cutV
  rw [e]
  show (xs.drop (min k xs.length)).take (xs.length - min k xs.length) = _
  rw [List.take_of_length_le (by rw [List.length_drop]; omega)]
  by_cases h : k ≤ xs.length
  · rw [Nat.min_eq_left h]
  · rw [Nat.min_eq_right (by omega), List.drop_of_length_le (Nat.le_refl _), List.drop_of_length_le (by omega)]
section
variable {X : Cx}
/-- t[:k], t[k:] -/
def rCut (K : PySem.W.Frag) : V → Option Int → Option Int → Hp → VK → Prop := fun x lo hi H Q => ∃ a xs, x = .ref a ∧ SqT K H a xs ∧ ∀ (q : Addr) (H' : Hp), Same H H' → SqT K H' q (cutV xs lo hi) → Q (.ref q) H'
theorem cut_all (xs : List V) (lo hi : Option Int) (h : HT.sIx xs.length 0 lo = 0 ∧ HT.sIx xs.length xs.length hi = xs.length) : cutV xs lo hi = xs := by
  unfold cutV
  rw [h.1, h.2, List.drop_zero, Nat.sub_zero, List.take_length]
theorem sl_cut : SlR X (rCut X.K) := by
  intro pins s σ H x v vl vu lo hi sl Q I rx hs pl pu h
  obtain ⟨a, xs, rfl, hx, q⟩ := h
  refine sl_tupA pins s σ H _ v vl vu lo hi sl Q I rx hs pl pu ⟨a, xs, rfl, hx, fun z => ?_, fun _ p hp => ?_⟩
  · refine q a H (Same.refl H) ?_
    rw [cut_all xs lo hi z]
    exact hx
  · exact q p _ (same_upd hp) (SqT.of upd_same)
end
section
variable {P : Program} {w : World} {K : PySem.W.Frag} {mg : Str → Option Value} {base : Heap} {fNm fNms fCols fKey fNum C CI : Addr} {fdNm fdNum : FuncData}
theorem scIsRow : FnScope ["self", "thing", "split", "value"] ["self", "thing"] (defScope sIsRow) := ⟨rfl, rfl, rfl, by decide +kernel, rfl, by decide +kernel, by decide +kernel⟩
theorem ok_isrow {f : Addr} {fd : FuncData} (F : Fun K "is_row" "Table.is_row" sIsRow f fd) (T : TxtP K mg fNm fNms) (U : TxtT K mg C CI fCols fKey)
    (GN : FnOk P w K mg base CX0 1 fNm fdNm ["thing"] (spTest K isNm)) (bN : Binds K fdNm ["thing"] []) (GU : FnOk P w K mg base CX0 1 fNum fdNum ["thing"] (spTest K isNum)) (gU : mg "is_number" = some (.ref fNum)) (kU : PySem.W.keepIn K (.ref fNum) = true) (bU : Binds K fdNum ["thing"] []) :
    FnOk P w K mg base CX0 2 f fd ["self", "thing"] (spRow K C) := by
  refine F.ok scIsRow (fun vs H Q E h => ?_) (fun cdv A outer s H vs Q E hr h => ?_)
  · obtain ⟨a, nm, ss, zs, ks, v, t, n, bs, rfl, _⟩ := h
    rfl
  · obtain ⟨a, nm, ss, zs, ks, v, t, n, bs, rfl, tb, d, k⟩ := h
    obtain ⟨⟨dx, a2, a3, a4, ha, h2, h3, h4⟩, l2, l3, l4⟩ := tb
    have h2 := h2.sq
    have h3 := h3.sq
    have h4 := h4.sq
    refine ⟨_, pss_cons (ps_if (PW.pt (pw_or (pt_not (pt_truth (pe_callB call_isi (by rfl) T.isi (by decide +kernel) (pa_cons (pv 1) (pa_cons (pe_bltn (v := .ty "tuple") (by rfl) T.tuple (by decide +kernel) rfl) pa_nil))) (fun _ => rfl)))
          (pw_or1 (pt_cmpR op_ne (pe_callB call_len_seq (by rfl) T.len (by decide +kernel) (pa_cons (pv 1) pa_nil))
            (pe_op op_add (pe_callB call_len_seq (by rfl) T.len (by decide +kernel) (pa_cons (pe_fld (pv 0) rfl) pa_nil)) (pe_callB call_len_seq (by rfl) T.len (by decide +kernel) (pa_cons (pe_fld (pv 0) rfl) pa_nil))) (nomark _)))))
        (pss_one (ps_ret pe_bl)) pss_nil)
      (pss_cons (ps_set (i := 2) scIsRow.nd rfl (Or.inl rfl) (pe_callB call_len_seq (by rfl) T.len (by decide +kernel) (pa_cons (pe_fld (pv 0) rfl) pa_nil)))
      (pss_one (ps_ret (pe_and (pe_callB (cr_all rfl) (by rfl) T.all (by decide +kernel) (pa_cons (pe_lc (own := [("value", 3)]) (g := gName 3) (tt := tYes) rfl scIsRow.nd (pi_tup (pe_slice sl_cut (pv 1) po_none (po_some (pv 2))))
            (blkOk_by (N := ["self", "thing", "split", "value"]) (sc := defScope sIsRow) (by decide +kernel)) (fun _ _ _ _ _ => pg_name (i := 3) scIsRow.nd rfl (Or.inl rfl)) (fun _ _ _ _ _ => pts_nil)
            (fun _ _ _ _ _ => pe_call GN hr rfl T.gNm T.kNm bN .nil pass0 (pa_cons (pv 3) pa_nil))) pa_nil))
          (pe_one (pe_callB (cr_all rfl) (by rfl) T.all (by decide +kernel) (pa_cons (pe_lc (own := [("value", 3)]) (g := gName 3) (tt := tYes) rfl scIsRow.nd (pi_tup (pe_slice sl_cut (pv 1) (po_some (pv 2)) po_none))
            (blkOk_by (N := ["self", "thing", "split", "value"]) (sc := defScope sIsRow) (by decide +kernel)) (fun _ _ _ _ _ => pg_name (i := 3) scIsRow.nd rfl (Or.inl rfl)) (fun _ _ _ _ _ => pts_nil)
            (fun _ _ _ _ _ => pe_call GU hr rfl gU kU bU .nil pass0 (pa_cons (pv 3) pa_nil))) pa_nil))))))), ?_⟩
    refine ⟨_, rfl, v, _, _, _, isTup t, rfl, .ty _, d.ty, kit_tup t, isTup t, rfl, ?_⟩
    have no : isRow ss.length zs.length t = false → ∀ H', Same H H' → Q (.bl false) H' := fun z H' s' => by
      rw [← z]
      exact k H' s'
    cases ht : isTup t with
    | false =>
      refine iteT (iteT (no ?_ H (Same.refl H)))
      cases t <;> first | rfl | cases ht
    | true =>
      obtain ⟨b, xs, ts, m, cs, rfl, rfl, _, hb, r, _⟩ := d.tupOf ht
      have hl := r.length
      refine iteF ?_
      refine ⟨_, rfl, b, xs, rfl, .inr hb, _, rfl, a, C, dx, _, _, rfl, ha, U.cl, U.n2, rfl, a2, _, rfl, .inr h2, _, rfl, a, C, dx, _, _, rfl, ha, U.cl, U.n3, rfl, a3, _, rfl, .inr h3, _, _, rfl, rfl, rfl, _, rfl, ?_⟩
      refine iteB (fun e => ?_) (fun e => ?_)
      · refine no ?_ H (Same.refl H)
        show (decide (ts.length = ss.length + zs.length) && _) = false
        rw [Bool.not_eq_true', decide_eq_false_iff_not, List.length_map, List.length_map] at e
        rw [decide_eq_false (fun z => e (by rw [hl, z]; rfl)), Bool.false_and]
      have el : ts.length = ss.length + zs.length := by
        rw [Bool.not_eq_false', decide_eq_true_eq, List.length_map, List.length_map] at e
        have := V.int.inj e
        omega
      obtain ⟨⟨c1, r1, _⟩, ⟨c2, r2, _⟩⟩ := r.part ss.length
      have row : isRow ss.length zs.length (.tup ts) = ((ts.take ss.length).all isNm && (ts.drop ss.length).all isNum) := by
        show (decide (ts.length = ss.length + zs.length) && _) = _
        rw [decide_eq_true el, Bool.true_and]
      refine ⟨_, rfl, a, C, dx, _, _, rfl, ha, U.cl, U.n2, rfl, a2, _, rfl, .inr h2, ?_⟩
      refine ⟨_, rfl, _, rfl, ((ss.map V.str).length : Nat), rfl, b, xs, rfl, hb, fun q H1 s1 hq => ⟨q, rfl, ⟨_, hq⟩, fun D hD => ?_⟩⟩
      rw [cut_take, List.length_map] at hq
      refine lc_tup (K := K) (a := q) (xs := xs.take ss.length) (fun i H' => Same H1 H' ∧ H' D = some (.lst ((((ts.take ss.length).take i).map isNm).map V.bl))) ⟨same_upd hD, upd_same⟩ (fun i H' _ z => sameT z.1 hq) ?_ ?_
      · rintro i y H3 hi ⟨s3, e3⟩
        refine ⟨rfl, ?_⟩
        dsimp only [tYes]
        rw [if_pos rfl]
        obtain ⟨t, ct, et, dt, _⟩ := (r1.same s1).get hi
        refine ⟨_, rfl, y, t, _, ct, rfl, dt.same s3, fun H4 s4 => ⟨_, s4 _ _ e3, ?_, fun b o e => ?_, ?_⟩⟩
        · rw [List.length_map, List.length_map, List.length_take]
          have : sizeLine > 8 := by decide
          have : (ts.take ss.length).length ≤ ts.length := by
            simp only [List.length_take, List.length_drop]
            omega
          omega
        · rw [upd_ne (ne_of_none e hD)]
          exact s4 b o (s3 b o e)
        · rw [upd_same, List.take_add_one, et]
          simp
      rintro H2 ⟨s2, e2⟩
      refine ⟨D, _, rfl, SqL.of e2, _, rfl, ?_⟩
      have z1 : (((((ts.take ss.length).take (xs.take ss.length).length).map isNm)).all id) = (ts.take ss.length).all isNm := by
        have l : (xs.take ss.length).length = (ts.take ss.length).length := r1.length
        rw [l, List.take_length, List.all_map]
        rfl
      rw [z1]
      have s12 := s1.trans s2
      refine iteB (fun e1 => ?_) (fun e1 => ?_)
      · refine ⟨_, rfl, _, rfl, ((ss.map V.str).length : Nat), rfl, b, xs, rfl, sameT s12 hb, fun q2 H3 s3' hq2 => ⟨q2, rfl, ⟨_, hq2⟩, fun D2 hD2 => ?_⟩⟩
        rw [cut_drop, List.length_map] at hq2
        have s13 := s12.trans s3'
        refine lc_tup (K := K) (a := q2) (xs := xs.drop ss.length) (fun i H' => Same H3 H' ∧ H' D2 = some (.lst ((((ts.drop ss.length).take i).map isNum).map V.bl))) ⟨same_upd hD2, upd_same⟩ (fun i H' _ z => sameT z.1 hq2) ?_ ?_
        · rintro i y H5 hi ⟨s3, e3⟩
          refine ⟨rfl, ?_⟩
          dsimp only [tYes]
          rw [if_pos rfl]
          obtain ⟨t, ct, et, dt, _⟩ := (r2.same s13).get hi
          refine ⟨_, rfl, y, t, _, ct, rfl, dt.same s3, fun H6 s4 => ⟨_, s4 _ _ e3, ?_, fun b o e => ?_, ?_⟩⟩
          · rw [List.length_map, List.length_map, List.length_take]
            have : sizeLine > 8 := by decide
            have : (ts.drop ss.length).length ≤ ts.length := by
              simp only [List.length_take, List.length_drop]
              omega
            omega
          · rw [upd_ne (ne_of_none e hD2)]
            exact s4 b o (s3 b o e)
          · rw [upd_same, List.take_add_one, et]
            simp
        rintro H4 ⟨s4, e4⟩
        refine ⟨D2, _, rfl, SqL.of e4, ?_⟩
        have z2 : ((((ts.drop ss.length).take (xs.drop ss.length).length).map isNum).all id) = (ts.drop ss.length).all isNum := by
          have l : (xs.drop ss.length).length = (ts.drop ss.length).length := r2.length
          rw [l, List.take_length, List.all_map]
          rfl
        rw [z2]
        rw [row, e1, Bool.true_and] at k
        exact k H4 (s13.trans s4)
      · rw [row, e1, Bool.false_and] at k
        exact k H2 s12
end
end Vm
namespace Vm
open PySem PySem.Spec PyProof.Rows L2
open AutoSeq1 (wpAny_loadPart')
open MeetsSeq
/-! for i, x in enumerate(t), t a tuple -/
theorem new_enum (t : Addr) (items : Array Value) (n : Nat) (dd : Option Addr) (sl : Array (Option Value)) :
    Meets (Builtin.«enumerate.__new__» ⟨[.type "enumerate", .ref t], []⟩) (fun _ R s => s.heap.get? t = some { cls := .type "tuple", dict := dd, data := .seq items n, slots := sl } ∧
      R (.ok (.ret (.ref (s.heap.push { cls := .type "tuple_iterator", data := .fields #[.ref t, .int 0 0] }).objs.size)))
        { s with heap := (s.heap.push { cls := .type "tuple_iterator", data := .fields #[.ref t, .int 0 0] }).push { cls := .type "enumerate", data := .fields #[.none, .bool false, .ref s.heap.objs.size, rawInt 0, .none, .none] } }) :=
  .of_wp fun prog w A R s h => by
    obtain ⟨hp, g, d, tk, os⟩ := s
    obtain ⟨hl, h⟩ := h
    have tup : hp.IsTuple t items := ⟨_, hl, rfl, n, rfl⟩
    have sub := sub_enumerate
    wp_walk using wpAny_loadPart' hl
    refine wpAny_stack_any fun st => wpAny_pure ?_
    split
    · rename_i c _ _ _ _ _
      cases (c == Value.type "enumerate") <;> (wp_walk using wpAny_loadPart' hl, wpAny_pyIter_tuple tup; exact ⟨_, rfl, h⟩)
    · wp_walk using wpAny_loadPart' hl, wpAny_pyIter_tuple tup
      exact ⟨_, rfl, h⟩
section
variable {prog : Program} {w : World} {A : Around} {E : Value → Shared → Prop} {s : Shared}
abbrev itOf (t : Addr) : Obj := { cls := .type "tuple_iterator", data := .fields #[.ref t, .int 0 0] }
theorem call_enum {t : Addr} {items : Array Value} {Q : Value → Shared → Prop} (ht : s.heap.IsTuple t items)
    (go : ∀ h', IsEnum h' (s.heap.objs.size + 1) s.heap.objs.size 0 .none → h'.IsTupleIter s.heap.objs.size t 0 → h'.objs.size = s.heap.objs.size + 2 → (∀ b o, s.heap.get? b = some o → h'.get? b = some o) →
      Q (.ref (s.heap.objs.size + 1)) { s with heap := h' }) : wpAny (model prog w) A (call (.type "enumerate") [.ref t]) Q E s := by
  obtain ⟨⟨c, dd, dt, sl⟩, hl, hc, n, hd⟩ := ht
  dsimp only at hc hd
  subst hc hd
  refine callType_new F.called_enumerate (by decide) (F.typeCall_enumerate_1 _) (F.newCall_enumerate_1 _) (fun made => F.args_object_init_2 made _) F.entry_enumerate_new (new_enum t items n dd sl) ⟨hl, ?_⟩
  have z : (s.heap.push (itOf t)).objs.size = s.heap.objs.size + 1 := Heap.size_push ..
  show _ ∧ _
  rw [z]
  have e : IsEnum ((s.heap.push (itOf t)).push { cls := .type "enumerate", data := .fields #[.none, .bool false, .ref s.heap.objs.size, rawInt 0, .none, .none] }) (s.heap.objs.size + 1) s.heap.objs.size 0 .none := by
    have y := Heap.get?_push_size (s.heap.push (itOf t)) (o := { cls := .type "enumerate", data := .fields #[.none, .bool false, .ref s.heap.objs.size, rawInt 0, .none, .none] }) rfl
    rwa [z] at y
  exact ⟨⟨_, e, rfl⟩, go _ e ⟨_, Heap.get?_push_of_some _ (Heap.get?_push_size _ rfl), rfl, rfl⟩ (by rw [Heap.size_push, z]) fun b o q => Heap.get?_push_of_some _ (Heap.get?_push_of_some _ q)⟩
end
/-- an iterator at the end of its tuple -/
theorem at_end {prog : Program} {w : World} {A : Around} (calm : A.handled = none) {it t : Addr} {items : Array Value} {i : Nat} (h : items.size ≤ i) :
    Draws prog w A it [it, t] i (fun _ _ => True) (fun j h => j = i ∧ h.IsTupleIter it t i ∧ h.IsTuple t items) where
  live := fun _ _ st => let ⟨o, ho, _⟩ := st.2.1; ⟨o, ho⟩
  frame := fun _ _ _ st k => ⟨st.1, st.2.1.at fun o e => k it (by simp) o e, st.2.2.at fun o e => k t (by simp) o e⟩
  item := fun j s Q E lt st _ => absurd st.1 (Nat.ne_of_lt lt)
  done := fun s Q E st hE => wpAny_nextOf_tuple_end calm st.2.1 st.2.2 (by simp; exact h) hE
/-- the tuple at a, each item in a new pair -/
def Itet (K : PySem.W.Frag) (a : Addr) : It :=
  ⟨fun i H => ∃ (xs : List V) (x : V), SqT K H a xs ∧ xs[i]? = some x, fun i H v H' => ∃ T x, v = .ref T ∧ H T = none ∧ H' = upd H T (.tup [.int (i : Nat), x]) ∧ ∀ xs, SqT K H a xs → xs[i]? = some x, fun i H => ∃ xs : List V, SqT K H a xs ∧ xs.length ≤ i⟩
theorem turn_enumT {P : Program} {w : World} {K : PySem.W.Frag} {elts : List Expr} {kk : Nat} {tpos : Pos} (a e it : Addr) (ae : a ≠ e) (ai : a ≠ it) :
    Turn P w K (.Tuple elts kk tpos) (Itet K a) [e, it] e (fun i h => (∃ old, IsEnum h e it ((i : Nat) : Int) old) ∧ h.IsTupleIter it a i ∧ e ≠ it) where
  mem := by simp
  obj := fun i h st b hb => by
    obtain ⟨⟨old, he⟩, ⟨o, ho, hc, hd⟩, _⟩ := st
    rcases (show b = e ∨ b = it by simpa using hb) with z | z
    · rw [z]
      exact ⟨_, he, fun v q => nomatch q⟩
    · rw [z]
      exact ⟨o, ho, fun v q => by rw [hd] at q; cases q⟩
  keep := fun i h h' st k => ⟨st.1.imp fun old he => k e (by simp) _ he, st.2.1.at fun o q => k it (by simp) o q, st.2.2⟩
  item := by
    intro X hP hw hK hc i pins s σ H E I hf st hg
    subst hP hw hK
    obtain ⟨⟨old, he⟩, hit, hne⟩ := st
    obtain ⟨xs, x, hq, hx⟩ := hg
    obtain ⟨its, rv, p, hz⟩ := I.tuple hq
    obtain ⟨u, hu, ru⟩ := rv.get hx
    have le : e < s.heap.objs.size := Heap.lt_size he
    have li : it < s.heap.objs.size := let ⟨_, q, _⟩ := hit; Heap.lt_size q
    have lt : i < its.toArray.size := by
      have := (List.getElem?_eq_some_iff.mp hu).1
      simpa using this
    have out : e ∉ [it, a] := fun z => (List.mem_cons.mp z).elim hne fun z => ae (List.mem_singleton.mp z).symm
    refine wpAny_pyNext_enum_itemD (Draws.tuple (A := X.A.in1) (by show X.A.handled = none; exact I.ok.hd hc) it a ai its.toArray) he ⟨hit, p⟩ lt hne out fun x' h' tk hx' ho st' hT hsz hk => ?_
    have ex : x' = u := by
      have e1 : its.toArray[i]? = some x' := hx'
      have e2 : its.toArray[i]? = some u := by simpa using hu
      exact Option.some.inj (e1.symm.trans e2)
    subst ex
    refine ⟨_, rfl, wpAny_letOwnedTupleGo_enum (s := { s with heap := h', toks := tk + 1 }) ho fun h2 he2 sb => ?_⟩
    have hT2 : h2.get? s.heap.objs.size = some { cls := .type "tuple", data := .seq #[.int i tk, x'] } := (sb.2 _ (Nat.ne_of_gt le)).trans hT
    have new : ObjOk X.prog X.w (upd H s.heap.objs.size (.tup [.int (i : Nat), x])) h2 s.heap.objs.size (.tup [.int (i : Nat), x]) :=
      ⟨by show 2 ≤ sizeLine; decide, [.int i tk, x'], .cons ⟨_, rfl⟩ (.cons ru .nil), ⟨_, hT2, rfl, _, rfl⟩⟩
    have I1 : Inv X pins σ (upd H s.heap.objs.size (.tup [.int (i : Nat), x])) { s with heap := h2, toks := tk + 1 } :=
      I.turnedNew (ch := [e, it]) (fun b ob hb q => (sb.2 b fun z => hb (by simp [z])).trans (hk b ob (fun z => hb (by simp [z])) (fun z => hb (by simp [z])) q)) hf (Nat.le_refl _) new
    refine ⟨.ref s.heap.objs.size, _, I1, rfl, ⟨_, x, rfl, I.hok.fresh (Nat.le_refl _), rfl, fun ys hy => by rw [I.tuple_inj hy hq]; exact hx⟩, ⟨⟨x', ?_⟩, st'.1.at fun o q => (sb.2 it (Ne.symm hne)).trans q, hne⟩, fun b hb => ?_⟩
    · rw [show ((i + 1 : Nat) : Int) = (i : Int) + 1 by omega]
      exact he2
    · have lb : b < s.heap.objs.size := by
        rcases (show b = e ∨ b = it by simpa using hb) with z | z
        · exact z ▸ le
        · exact z ▸ li
      rw [upd_ne (Nat.ne_of_lt lb)]
      exact (hf b hb).1
  done := by
    intro X hP hw hK hc i pins s σ H E I hf st hg
    subst hP hw hK
    obtain ⟨⟨old, he⟩, hit, hne⟩ := st
    obtain ⟨xs, hq, hx⟩ := hg
    obtain ⟨its, rv, p, hz⟩ := I.tuple hq
    obtain ⟨f0, f1, f2, f3, f4, f5⟩ := hf it (by simp)
    have hl := rv.length
    exact wpAny_pyNext_enum_endD (at_end (A := X.A.in1) (by show X.A.handled = none; exact I.ok.hd hc) (items := its.toArray) (i := i) (by simp; omega)) he ⟨rfl, hit, p⟩ fun h' eb => ⟨rfl, I.turned (t' := s.toks) (fun b o hb q => eb b o hb q) f0 f1 f3 f4 f5⟩
  self := fun A i s Q E st h => let ⟨⟨_, he⟩, _⟩ := st; wpAny_pyIter_enum he h
theorem walk_enumT {K : PySem.W.Frag} {a : Addr} {xs : List V} : Walk (Itet K a) xs.length (fun H => SqT K H a xs) (YPair (fun i => some (.int (i : Nat))) (fun i => xs[i]?)) := by
  refine ⟨fun i _ hi q => ⟨xs, xs[i], q, by simp [hi]⟩, fun _ q => ⟨xs, q, Nat.le_refl _⟩, ?_⟩
  rintro i H v H' _ q ⟨T, x, h1, h2, h3, h4⟩
  exact ⟨T, .int (i : Nat), x, h1, h2, h3, rfl, h4 xs q⟩
def iEnumT (K : PySem.W.Frag) (ta : TA) : TI := fun σ H R => ta σ H fun vs H1 => ∃ a xs, vs = [.ref a] ∧ SqT K H1 a xs ∧ R (Itet K a) H1
theorem pi_enumT {X : Cx} {e : Expr} {ta : TA} {p pos tpos : Pos} {elts : List Expr} {kk : Nat} (hg : Gl X "enumerate") (hm : X.mg "enumerate" = none) (ha : PA X [e] ta) (hs : starEach [e] X.env = [(false, eval e X.env)] := by rfl) :
    PI X (.Tuple elts kk tpos) (.Call (.Name "enumerate" p) [e] [] pos) (iEnumT X.K ta) := by
  constructor
  intro pins s σ H R I h
  refine Call_ (ld_blt I hg hm boot_enumerate (PyProof.Rows.callWith_type1 (thn (ha.run pos pins s σ H _ I h) ?_) hs rfl))
  rintro us s1 ⟨vs, H1, I1, r1, a, xs, rfl, hq, q⟩
  obtain ⟨u, rfl, ru⟩ := vals1 r1
  cases ru
  obtain ⟨its, rv, tup, _⟩ := I1.tuple hq
  have la : a < s1.heap.objs.size := let ⟨_, e, _⟩ := tup; Heap.lt_size e
  refine call_enum tup fun h' he hit hsz hk => wpAny_pyIter_enum he ?_
  refine ⟨s1.heap.objs.size + 1, [s1.heap.objs.size + 1, s1.heap.objs.size], _, _, H1, rfl, I1.kept (t' := s1.toks) hk, turn_enumT a (s1.heap.objs.size + 1) s1.heap.objs.size (Nat.ne_of_lt (Nat.lt_succ_of_lt la)) (Nat.ne_of_lt la), ⟨⟨.none, he⟩, hit, Nat.succ_ne_self _⟩, fun b hb => ?_, q⟩
  have far : s1.heap.objs.size ≤ b := by
    rcases (show b = s1.heap.objs.size + 1 ∨ b = s1.heap.objs.size by simpa using hb) with z | z
    · rw [z]
      exact Nat.le_succ _
    · rw [z]
      exact Nat.le_refl _
  exact I1.fpOk far (I1.hok.fresh far)
end Vm
namespace Vm
open PySem L2
/-- the places of the columns that belong to the key -/
def places (cols ks : List Str) (n : Nat) : List Nat := (List.range n).filter fun i => ks.any (· == cols.getD i Str.empty)
def sameAt (xs ys : List V) (i : Nat) : Bool := decide (xs.getD i .non = ys.getD i .non)
def clashB (cols ks : List Str) (xs ys : List V) : Bool := decide (0 < (places cols ks cols.length).length) && (places cols ks cols.length).all (sameAt xs ys)
def spColumns (K : PySem.W.Frag) (C : Addr) : Sp := fun vs H Q _ => ∃ (a : Addr) (nm : Str) (ss zs ks : List Str), vs = [.ref a] ∧ Tb K H C a nm ss zs ks ∧ ∀ (q : Addr) (H' : Hp), Same H H' → TupE K H' q ((ss ++ zs).map V.str) → Q (.ref q) H'
def spClash (K : PySem.W.Frag) (C : Addr) : Sp := fun vs H Q _ => ∃ (a p q : Addr) (nm : Str) (ss zs ks : List Str) (xs ys : List V), vs = [.ref a, .ref p, .ref q] ∧ Tb K H C a nm ss zs ks ∧ SqT K H p xs ∧ SqT K H q ys ∧
  xs.length = ss.length + zs.length ∧ ys.length = ss.length + zs.length ∧ (∀ (i : Nat) x y, xs[i]? = some x → ys[i]? = some y → scal x y = true) ∧ ∀ H', Same H H' → Q (.bl (clashB (ss ++ zs) ks xs ys)) H'
theorem places_succ (cols ks : List Str) (n : Nat) : places cols ks (n + 1) = if ks.any (· == cols.getD n Str.empty) = true then places cols ks n ++ [n] else places cols ks n := by
  unfold places
  rw [List.range_succ, List.filter_append]
  by_cases e : ks.any (· == cols.getD n Str.empty) = true
  · rw [if_pos e]
    simp only [List.filter_cons, List.filter_nil]
    rw [if_pos e]
  · rw [if_neg e]
    simp only [List.filter_cons, List.filter_nil]
    rw [if_neg e, List.append_nil]
theorem places_le (cols ks : List Str) (n : Nat) : (places cols ks n).length ≤ n := by
  have h := List.length_filter_le (fun i => ks.any (· == cols.getD i Str.empty)) (List.range n)
  rw [List.length_range] at h
  exact h
theorem places_mem {cols ks : List Str} {n i j : Nat} (h : (places cols ks n)[j]? = some i) : i < n := by
  have m := List.mem_of_getElem? h
  exact List.mem_range.mp (List.mem_filter.mp m).1
theorem inV_str (z : Str) : ∀ ks : List Str, inV (.str z) (ks.map V.str) = ks.any (· == z)
  | [] => rfl
  | k :: r => by
    have ih := inV_str z r
    unfold inV at ih ⊢
    rw [List.map_cons, List.any_cons, List.any_cons, ih]
    rfl
theorem flat_strs : ∀ ks : List Str, (ks.map V.str).all flatV = true
  | [] => rfl
  | k :: r => by
    rw [List.map_cons, List.all_cons, flat_strs r]
    rfl
section
variable {P : Program} {w : World} {K : PySem.W.Frag} {mg : Str → Option Value} {base : Heap} {fNm fNms fCols fKey C CI pC gC : Addr} {fdG : FuncData}
theorem scColumns : FnScope ["self"] ["self"] (defScope sColumns) := ⟨rfl, rfl, rfl, by decide +kernel, rfl, by decide +kernel, by decide +kernel⟩
theorem ok_columns {f : Addr} {fd : FuncData} (F : Fun K "columns" "Table.columns" sColumns f fd) (U : TxtT K mg C CI fCols fKey) : FnOk P w K mg base CX0 1 f fd ["self"] (spColumns K C) := by
  refine F.ok scColumns (fun vs H Q E h => ?_) (fun cdv A outer s H vs Q E hr h => ?_)
  · obtain ⟨a, nm, ss, zs, ks, rfl, _⟩ := h
    rfl
  · obtain ⟨a, nm, ss, zs, ks, rfl, tb, k⟩ := h
    obtain ⟨⟨dx, a2, a3, a4, ha, h2, h3, h4⟩, l2, l3, l4⟩ := tb
    refine ⟨_, pss_one (ps_ret (pe_op op_catE (pe_fld (pv 0) rfl) (pe_fld (pv 0) rfl))), ?_⟩
    refine ⟨_, rfl, a, C, dx, _, _, rfl, ha, U.cl, U.n2, rfl, _, rfl, a, C, dx, _, _, rfl, ha, U.cl, U.n3, rfl, a2, a3, _, _, rfl, rfl, h2, h3, ?_, fun q H' s' hq _ => k q H' s' (by rw [List.map_append]; exact hq)⟩
    have : sizeLine > 4 := by decide
    rw [List.length_map, List.length_map]
    omega
theorem scClash : FnScope ["self", "one", "other", "places", "place", "column"] ["self", "one", "other"] (defScope sClash) := ⟨rfl, rfl, rfl, by decide +kernel, rfl, by decide +kernel, by decide +kernel⟩
theorem ok_clash {f : Addr} {fd : FuncData} (F : Fun K "clash" "Table.clash" sClash f fd) (T : TxtP K mg fNm fNms) (U : TxtT K mg C CI fCols fKey) (gE : mg "enumerate" = none)
    (pp : PropOf K C "columns" pC gC) (GG : FnOk P w K mg base CX0 1 gC fdG ["self"] (spColumns K C)) (bG : Binds K fdG ["self"] []) : FnOk P w K mg base CX0 3 f fd ["self", "one", "other"] (spClash K C) := by
  refine F.ok scClash (fun vs H Q E h => ?_) (fun cdv A outer s H vs Q E hr h => ?_)
  · obtain ⟨a, p, q, nm, ss, zs, ks, xs, ys, rfl, _⟩ := h
    rfl
  · obtain ⟨a, p, q, nm, ss, zs, ks, xs, ys, rfl, tb, hp, hq, lx, ly, sc, k⟩ := h
    have tb0 := tb
    obtain ⟨⟨dx, a2, a3, a4, ha, h2, h3, h4⟩, l2, l3, l4⟩ := tb
    have h2 := h2.sq
    have h3 := h3.sq
    have h4 := h4.sq
    refine ⟨_, pss_cons (ps_setLc (i := 3) (own := [("place", 4), ("column", 5)]) (g := gTup K 2 (gCons (gName 4) (gCons (gName 5) gNil))) (tt := tTest (tOp (rIn K false) (tVar 5) (tFld K (tVar 0) "key"))) (te := tVar 4) rfl scClash.nd rfl rfl (sw_true rfl rfl rfl (by decide +kernel))
          (pi_enumT rfl gE (pa_cons (pe_prop (pv 0) U.cl pp GG hr bG .nil pass0 rfl) pa_nil))
          (blkOk_by (N := ["self", "one", "other", "places", "place", "column"]) (sc := defScope sClash) (by decide +kernel))
          (fun _ _ _ _ _ => by exact (pg_tup rfl (by exact (pgs_cons (pg_name (i := 4) scClash.nd rfl (Or.inl rfl)) (by exact (pgs_cons (pg_name (i := 5) scClash.nd rfl (Or.inl rfl)) pgs_nil))))))
          (fun _ _ _ _ _ => by exact (pts_one (pt_cmpR op_in_seq (pv 5) (pe_fld (pv 0) rfl) (by rfl))))
          (fun _ _ _ _ _ => by exact (pv 4)))
      (pss_one (ps_ret (pe_and (pe_cmpR op_gt (pe_callB call_len_seq (by rfl) T.len (by decide +kernel) (pa_cons (pv 3) pa_nil)) pe_int (nomark _))
        (pe_one (pe_callB (cr_all rfl) (by rfl) T.all (by decide +kernel) (pa_cons (pe_lc (own := [("place", 4)]) (g := gName 4) (tt := tYes) (te := tOp rEq (tOp (rIxT K) (tVar 1) (tVar 4)) (tOp (rIxT K) (tVar 2) (tVar 4))) rfl scClash.nd (pi_list (pv 3))
          (blkOk_by (N := ["self", "one", "other", "places", "place", "column"]) (sc := defScope sClash) (by decide +kernel)) (fun _ _ _ _ _ => pg_name (i := 4) scClash.nd rfl (Or.inl rfl)) (fun _ _ _ _ _ => pts_nil)
          (fun _ _ _ _ _ => by exact (pe_cmpR op_eq (pe_ix ix_tup (pv 1) (pv 4) (fun _ _ => rfl)) (pe_ix ix_tup (pv 2) (pv 4) (fun _ _ => rfl)) (nomark _)))) pa_nil)))))), ?_⟩
    have few : (ss ++ zs).length ≤ 4 := by
      rw [List.length_append]
      omega
    have big : sizeLine > 8 := by decide
    refine ⟨_, rfl, a, dx, _, rfl, ha, a, nm, ss, zs, ks, rfl, tb0, fun q1 H1 s1 hq1' => ⟨q1, (ss ++ zs).map V.str, rfl, hq1'.sq, fun D hD => ?_⟩⟩
    have hq1 := hq1'.sq
    refine lc_it (walk_enumT (K := K) (a := q1) (xs := (ss ++ zs).map V.str)) (fun i H' => Same H1 H' ∧ H' D = some (.lst ((places (ss ++ zs) ks i).map fun j => V.int (j : Nat)))) ⟨same_upd hD, upd_same⟩ (fun i H' _ z => sameT z.1 hq1) ?_ ?_
    · rintro i x H2 H3 hi ⟨s2, e2⟩ ⟨T1, x1, x2, rfl, hT, rfl, g1, g2⟩
      cases g1
      obtain ⟨z, ez, rfl⟩ := map_at g2
      have s3 : Same H2 (upd H2 T1 (.tup [.int (i : Nat), .str z])) := same_upd hT
      have s13 := (s1.trans s2).trans s3
      have zi : (ss ++ zs).getD i Str.empty = z := by
        rw [List.getD_eq_getElem?_getD, ez]
        rfl
      have ps := places_succ (ss ++ zs) ks i
      rw [zi] at ps
      refine ⟨T1, _, rfl, SqT.of upd_same, rfl, _, _, rfl, _, _, rfl, rfl, rfl, ?_⟩
      refine ⟨_, rfl, _, rfl, a, C, dx, _, _, rfl, s13 _ _ ha, U.cl, U.n4, rfl, a4, ks.map V.str, rfl, .inr (sameT s13 h4), rfl, flat_strs ks, _, rfl, ?_⟩
      show if inV (.str z) (ks.map V.str) = true then _ else _
      rw [inV_str]
      refine iteB (fun e => ?_) (fun e => ?_)
      · refine ⟨_, rfl, _, s3 _ _ e2, ?_, fun b o y => ?_, ?_⟩
        · rw [List.length_map]
          have := places_le (ss ++ zs) ks i
          rw [List.length_map] at hi
          omega
        · rw [upd_ne (ne_of_none y hD)]
          exact s3 _ _ (s2 b o y)
        · rw [upd_same, ps, if_pos e, List.map_append]
          rfl
      · refine ⟨s2.trans s3, ?_⟩
        rw [ps, if_neg (by rw [e]; decide)]
        exact s3 _ _ e2
    · rintro H2 ⟨s2, e2⟩
      rw [List.length_map] at e2
      have s12 := s1.trans s2
      generalize hp' : places (ss ++ zs) ks (ss ++ zs).length = pl at e2
      have lp : pl.length ≤ 4 := by
        have := places_le (ss ++ zs) ks (ss ++ zs).length
        rw [hp'] at this
        omega
      have cb : clashB (ss ++ zs) ks xs ys = (decide (0 < pl.length) && pl.all (sameAt xs ys)) := by
        unfold clashB
        rw [hp']
      rw [cb] at k
      refine ⟨_, rfl, D, _, rfl, .inl (SqL.of e2), _, _, rfl, rfl, _, rfl, ?_⟩
      rw [List.length_map]
      refine ite_ (fun c => ?_) (fun c => ?_)
      · rw [decide_eq_true (show 0 < pl.length by omega), Bool.true_and] at k
        refine ⟨_, rfl, D, rfl, ⟨_, SqL.of e2⟩, fun D2 hD2 => ?_⟩
        refine lc_list (K := K) (a := D) (xs := pl.map fun j => V.int (j : Nat)) (fun i H' => Same H2 H' ∧ H' D2 = some (.lst (((pl.take i).map (sameAt xs ys)).map V.bl))) ⟨same_upd hD2, upd_same⟩ (fun i H' _ z => SqL.of (z.1 _ _ e2)) ?_ ?_
        · rintro i y H3 hi ⟨s3, e3⟩
          rw [List.getElem?_map] at hi
          cases ej : pl[i]? with
          | none =>
            rw [ej] at hi
            cases hi
          | some j =>
            rw [ej] at hi
            cases hi
            have jl : j < (ss ++ zs).length := places_mem (cols := ss ++ zs) (ks := ks) (by rw [hp']; exact ej)
            rw [List.length_append] at jl
            have jx : xs[j]? = some (xs.getD j .non) := by
              rw [List.getD_eq_getElem?_getD, List.getElem?_eq_getElem (by omega)]
              rfl
            have jy : ys[j]? = some (ys.getD j .non) := by
              rw [List.getD_eq_getElem?_getD, List.getElem?_eq_getElem (by omega)]
              rfl
            refine ⟨rfl, ?_⟩
            dsimp only [tYes]
            rw [if_pos rfl]
            refine ⟨_, rfl, _, rfl, p, xs, _, _, rfl, rfl, sameT (s12.trans s3) hp, atI_nat jx, _, rfl, _, rfl, q, ys, _, _, rfl, rfl, sameT (s12.trans s3) hq, atI_nat jy, sc j _ _ jx jy, ?_⟩
            refine ⟨_, e3, ?_, fun b o y => ?_, ?_⟩
            · rw [List.length_map, List.length_map, List.length_take]
              omega
            · rw [upd_ne (ne_of_none y hD2)]
              exact s3 b o y
            · rw [upd_same, List.take_add_one, ej]
              simp [sameAt]
        · rintro H3 ⟨s3, e3⟩
          refine ⟨D2, _, rfl, SqL.of e3, ?_⟩
          rw [List.length_map, List.take_length, List.all_map]
          exact k H3 (s12.trans s3)
      · rw [decide_eq_false (show ¬ 0 < pl.length by omega), Bool.false_and] at k
        exact k H2 s12
end
end Vm
namespace Vm
open PySem L2
/-- the texts ss, zs are the same -/
def sameSS : List Str → List Str → Bool
  | [], [] => true
  | x :: r, z :: s => x == z && sameSS r s
  | _, _ => false
theorem sameSS_eq : ∀ ss zs : List Str, sameSS ss zs = decide (ss = zs)
  | [], [] => rfl
  | [], z :: s => rfl
  | x :: r, [] => rfl
  | x :: r, z :: s => by
    show (x == z && sameSS r s) = _
    rw [sameSS_eq r s]
    by_cases h : x = z
    · subst h
      rw [beq_self_eq_true, Bool.true_and]
      by_cases h2 : r = s
      · rw [decide_eq_true h2, decide_eq_true (by rw [h2])]
      · rw [decide_eq_false h2, decide_eq_false fun q => h2 (List.cons.inj q).2]
    · rw [beq_eq_false_iff_ne.mpr h, Bool.false_and, decide_eq_false fun q => h (List.cons.inj q).1]
theorem strs_data : ∀ ss : List Str, sameS (ss.map Tr.str) = sameSS ss
  | [] => by
    funext zs
    cases zs <;> rfl
  | x :: r => by
    funext zs
    cases zs with
    | nil => rfl
    | cons z s =>
      show (isS z (.str x) && sameS (r.map Tr.str) s) = (x == z && sameSS r s)
      rw [strs_data r]
      rfl
section
variable {X : Cx}
/-- two tuples of texts -/
def rEqSS (K : PySem.W.Frag) : R2 := fun x y H Q => ∃ (p q : Addr) (ss zs : List Str), x = .ref p ∧ y = .ref q ∧ SqT K H p (ss.map V.str) ∧ SqT K H q (zs.map V.str) ∧ Q (.bl (decide (ss = zs))) H
theorem op_eqSS (hu : X.A.units + 1 < cLine) : OpR X (compareOp .Eq) (rEqSS X.K) := by
  intro pins s σ H x y v u Q I rx ry h
  obtain ⟨p, q, ss, zs, rfl, rfl, hp, hq, k⟩ := h
  cases rx
  cases ry
  obtain ⟨its, r, pl, _⟩ := I.tuple hp
  obtain ⟨its2, r2, pl2, _⟩ := I.tuple hq
  have l1 : its.length = ss.length := by rw [← r.length, List.length_map]
  have l2 : its2.length = zs.length := by rw [← r2.length, List.length_map]
  refine SeqAt.eq_tupleAt (e := atS (ss.map Tr.str) zs) pl pl2 (by omega) (fun j h1 h2 => ?_) ⟨.bl _, H, I, rfl, ?_⟩
  · have h1' : j < its.length := by simpa using h1
    have h2' : j < its2.length := by simpa using h2
    have j1 : j < ss.length := by omega
    have j2 : j < zs.length := by omega
    obtain ⟨u, a1, a2⟩ := r.get (show (ss.map V.str)[j]? = some (V.str ss[j]) by rw [List.getElem?_map, List.getElem?_eq_getElem j1]; rfl)
    obtain ⟨u2, b1, b2⟩ := r2.get (show (zs.map V.str)[j]? = some (V.str zs[j]) by rw [List.getElem?_map, List.getElem?_eq_getElem j2]; rfl)
    obtain ⟨k1, rfl⟩ := a2
    obtain ⟨k2, rfl⟩ := b2
    have c1 : its.toArray[j] = Value.str ss[j] k1 := by
      have := List.getElem?_eq_getElem h1'
      rw [a1] at this
      simpa using (Option.some.inj this).symm
    have c2 : its2.toArray[j] = Value.str zs[j] k2 := by
      have := List.getElem?_eq_getElem h2'
      rw [b1] at this
      simpa using (Option.some.inj this).symm
    have e : atS (ss.map Tr.str) zs j = (ss[j] == zs[j]) := by
      unfold atS
      rw [List.getElem?_map, List.getElem?_eq_getElem j1, List.getElem?_eq_getElem j2]
      rfl
    rw [c1, c2, e]
    exact SeqAt.EqAt.str_str _ k1 _ k2
  · have e : ((List.range (min its.toArray.size its2.toArray.size)).all (atS (ss.map Tr.str) zs) && its.toArray.size == its2.toArray.size) = decide (ss = zs) := by
      rw [← sameSS_eq, ← strs_data, ← all_atS, List.size_toArray, List.size_toArray, l1, l2, List.length_map]
    rw [e]
    exact k
end
/-- two tables are equal -/
def eqTb (nm : Str) (ss zs ks : List Str) (nm' : Str) (ss' zs' ks' : List Str) : Bool := decide (nm = nm') && (decide (ss = ss') && (decide (zs = zs') && decide (ks = ks')))
/-- what isinstance asks of the class -/
structure TxtO (K : PySem.W.Frag) (C : Addr) : Prop where
  ca : PySem.W.findIn K (.ref C) "__class__" = some (some (.builtin "object.__class__"))
  cn : PySem.W.specialIn K (.builtin "object.__class__") "__get__" = some (some (.builtin "getset_descriptor.__get__"))
  ct : PySem.W.takesIn K (.builtin "object.__class__") = some true
  mo : PySem.W.mroIn K C (.type "object") = some true
  kC : PySem.W.kitOne K (.ref C) (.ref C) = some true
  kT : ∀ t : Tr, PySem.W.kitOne K (.type (tyOf t)) (.ref C) = some false
def spEqT (K : PySem.W.Frag) (C : Addr) : Sp := fun vs H Q _ => ∃ (a : Addr) (y : V) (nm : Str) (ss zs ks : List Str), vs = [.ref a, y] ∧ Tb K H C a nm ss zs ks ∧
  ((∃ (b : Addr) (nm' : Str) (ss' zs' ks' : List Str), y = .ref b ∧ Tb K H C b nm' ss' zs' ks' ∧ ∀ H', Same H H' → Q (.bl (eqTb nm ss zs ks nm' ss' zs' ks')) H') ∨
    ∃ (t : Tr) (n : Nat) (bs : List Addr), Dt K H y t n bs ∧ ∀ H', Same H H' → Q (.bl false) H')
section
variable {P : Program} {w : World} {K : PySem.W.Frag} {mg : Str → Option Value} {base : Heap} {fNm fNms fCols fKey C CI : Addr}
theorem scEq : FnScope ["self", "other"] ["self", "other"] (defScope sEq) := ⟨rfl, rfl, rfl, by decide +kernel, rfl, by decide +kernel, by decide +kernel⟩
theorem ok_eq {f : Addr} {fd : FuncData} (F : Fun K "__eq__" "Table.__eq__" sEq f fd) (T : TxtP K mg fNm fNms) (U : TxtT K mg C CI fCols fKey) (O : TxtO K C) : FnOk P w K mg base CX0 1 f fd ["self", "other"] (spEqT K C) := by
  refine F.ok scEq (fun vs H Q E h => ?_) (fun cdv A outer s H vs Q E hr h => ?_)
  · obtain ⟨a, y, nm, ss, zs, ks, rfl, _⟩ := h
    rfl
  · obtain ⟨a, y, nm, ss, zs, ks, rfl, tb, h⟩ := h
    have hu : (A.deeper (PyProof.Rows.envOfC "Table.__eq__" (defScope sEq) s.heap.objs.size f cdv)).units + 1 < cLine := by
      have := hr.units
      omega
    obtain ⟨⟨dx, a2, a3, a4, ha, h2, h3, h4⟩, l2, l3, l4⟩ := tb
    have h2 := h2.sq
    have h3 := h3.sq
    have h4 := h4.sq
    refine ⟨_, pss_one (ps_ret (pe_and (pe_callB call_isi (by rfl) T.isi (by decide +kernel) (pa_cons (pv 1) (pa_cons (pe_glob (v := .ref C) rfl U.gC rfl) pa_nil)))
      (pe_and (pe_cmpR op_eq (pe_fld (pv 0) rfl) (pe_fld (pv 1) rfl) (nomark _)) (pe_and (pe_cmpR (op_eqSS hu) (pe_fld (pv 0) rfl) (pe_fld (pv 1) rfl) (nomark _))
        (pe_and (pe_cmpR (op_eqSS hu) (pe_fld (pv 0) rfl) (pe_fld (pv 1) rfl) (nomark _)) (pe_one (pe_cmpR (op_eqSS hu) (pe_fld (pv 0) rfl) (pe_fld (pv 1) rfl) (nomark _)))))))), ?_⟩
    rcases h with ⟨b, nm', ss', zs', ks', rfl, tb', k⟩ | ⟨t, n, bs, d, k⟩
    · obtain ⟨⟨dx', b2, b3, b4, hb, g2, g3, g4⟩, _, _, _⟩ := tb'
      have g2 := g2.sq
      have g3 := g3.sq
      have g4 := g4.sq
      refine ⟨_, rfl, .ref b, _, _, _, true, rfl, .own _, .base (.ins hb U.cl O.ca O.cn O.ct O.mo), O.kC, _, rfl, ?_⟩
      refine iteT ?_
      refine ⟨_, rfl, a, C, dx, _, _, rfl, ha, U.cl, U.n1, rfl, _, rfl, b, C, dx', _, _, rfl, hb, U.cl, U.n1, rfl, rfl, _, rfl, ?_⟩
      have e1 : decide (V.str nm = V.str nm') = decide (nm = nm') := by
        by_cases z : nm = nm'
        · rw [z, decide_eq_true rfl, decide_eq_true rfl]
        · rw [decide_eq_false z, decide_eq_false fun q => z (V.str.inj q)]
      unfold eqTb at k
      refine ite_ (fun c => ?_) (fun c => ?_)
      · rw [← e1, decide_eq_true c, Bool.true_and] at k
        refine ⟨_, rfl, a, C, dx, _, _, rfl, ha, U.cl, U.n2, rfl, _, rfl, b, C, dx', _, _, rfl, hb, U.cl, U.n2, rfl, a2, b2, ss, ss', rfl, rfl, h2, g2, _, rfl, ?_⟩
        refine ite_ (fun c2 => ?_) (fun c2 => ?_)
        · rw [decide_eq_true c2, Bool.true_and] at k
          refine ⟨_, rfl, a, C, dx, _, _, rfl, ha, U.cl, U.n3, rfl, _, rfl, b, C, dx', _, _, rfl, hb, U.cl, U.n3, rfl, a3, b3, zs, zs', rfl, rfl, h3, g3, _, rfl, ?_⟩
          refine ite_ (fun c3 => ?_) (fun c3 => ?_)
          · rw [decide_eq_true c3, Bool.true_and] at k
            exact ⟨_, rfl, a, C, dx, _, _, rfl, ha, U.cl, U.n4, rfl, _, rfl, b, C, dx', _, _, rfl, hb, U.cl, U.n4, rfl, a4, b4, ks, ks', rfl, rfl, h4, g4, k H (Same.refl H)⟩
          · rw [decide_eq_false c3, Bool.false_and] at k
            exact k H (Same.refl H)
        · rw [decide_eq_false c2, Bool.false_and] at k
          exact k H (Same.refl H)
      · rw [← e1, decide_eq_false c, Bool.false_and] at k
        exact k H (Same.refl H)
    · refine ⟨_, rfl, y, _, _, _, false, rfl, .own _, d.ty, O.kT t, _, rfl, ?_⟩
      exact iteF (k H (Same.refl H))
end
end Vm
namespace Vm
open PySem PySem.Spec PyProof.Rows L2
/-- the type of any data, looked up -/
theorem Dt.looks {X : Cx} {pins : List (Addr × Obj)} {σ : L2.St} {H : Hp} {s : Shared} (I : Inv X pins σ H s) {v : V} {t : Tr} {n : Nat} {bs : List Addr} {u : Value} (d : Dt X.K H v t n bs) (r : RelV v u) :
    PySem.W.Looks (model X.prog X.w) s.heap (typeOf u) (.type (tyOf t)) := by
  have at_ : ∀ {a : Addr} {o : Obj} {T : String}, s.heap.get? a = some o → o.cls = .type T → PySem.W.Looks (model X.prog X.w) s.heap (typeOf (.ref a)) (.type T) := fun {a o T} e c A Q E s k q => wpAny_typeOf_ref (k _ _ e) (by rw [c]; exact q)
  cases d with
  | non =>
    cases r
    exact PySem.W.looks_typeIn I.kIn rfl
  | bl b =>
    cases r
    exact PySem.W.looks_typeIn I.kIn rfl
  | int h =>
    obtain ⟨t, rfl⟩ := r
    exact PySem.W.looks_typeIn I.kIn rfl
  | str h hz =>
    obtain ⟨t, rfl⟩ := r
    exact PySem.W.looks_typeIn I.kIn rfl
  | lst h rs na =>
    cases r
    obtain ⟨z, its, n', rv, e⟩ := I.hok _ _ h
    exact at_ e rfl
  | emp h =>
    cases r
    obtain ⟨its, rv, ⟨o, e, c, n', d⟩, _⟩ := I.tuple (.inr h)
    exact at_ e c
  | tup h nd rs na =>
    cases r
    obtain ⟨_, z, its, rv, o, e, c, n', d⟩ := I.hok _ _ h
    exact at_ e c
  | dct h kf rs na =>
    cases r
    obtain ⟨z, hs, vs, kv, o, es, ep, e, ex, d, _⟩ := I.hok _ _ h
    exact at_ e ex.1
section
variable {X : Cx} {C f : Addr} {fd : FuncData} {n : Nat}
/-- table == anything, by Table.__eq__ -/
theorem op_eqOwn (F : FnOk X.prog X.w X.K X.mg X.base CX0 n f fd ["self", "other"] (spEqT X.K C)) (hs : PySem.W.findIn X.K (.ref C) "__eq__" = some (some (.ref f))) (hf : PySem.W.isFn X.K (.ref f) = true) (hb : Binds X.K fd ["self", "other"] [])
    (room : Room n X.A) (nf : ∀ t : Tr, PySem.W.notFirst X.K C (.type (tyOf t)) = true) : OpR X (compareOp .Eq) (fun x y H Q => spEqT X.K C [x, y] H Q E0) := by
  intro pins s σ H x y v u Q I rx ry h
  obtain ⟨a, y', nm, ss, zs, ks, e, tb, h⟩ := h
  injection e with e1 e2
  injection e2 with e2 _
  subst e1 e2
  cases rx
  have tb0 := tb
  obtain ⟨⟨dx, a2, a3, a4, ha, _⟩, _⟩ := tb
  obtain ⟨mA, J, _⟩ := ins_get I.hok ha
  obtain ⟨od, J, _⟩ := J.look
  obtain ⟨m, hF⟩ := I.fr
  have ty : ∃ tb, PySem.W.Looks (model X.prog X.w) s.heap (typeOf u) tb ∧ PySem.W.notFirst X.K C tb = true := by
    rcases h with ⟨b, nm', ss', zs', ks', rfl, ⟨⟨dx', _, _, _, hb', _⟩, _⟩, _⟩ | ⟨t, n, bs, d, _⟩
    · cases ry
      obtain ⟨mB, J', _⟩ := ins_get I.hok hb'
      obtain ⟨od', J', _⟩ := J'.look
      exact ⟨.ref C, J'.type, by simp [PySem.W.notFirst]⟩
    · exact ⟨_, d.looks I ry, nf t⟩
  obtain ⟨tt, lt, nt⟩ := ty
  refine PySem.W.cmp_K (op := .Eq) (tb := tt) room.units0 hF I.ok.mod.kin J lt nt hs hf ?_
  have want : spEqT X.K C [.ref a, y] H (fun z H' => (∃ b, z = .bl b) ∧ Q z H') E0 := by
    refine ⟨a, y, nm, ss, zs, ks, rfl, tb0, ?_⟩
    rcases h with ⟨b, nm', ss', zs', ks', e, tb', k⟩ | ⟨t, n, bs, d, k⟩
    · exact .inl ⟨b, nm', ss', zs', ks', e, tb', fun H' s' => ⟨⟨_, rfl⟩, k H' s'⟩⟩
    · exact .inr ⟨t, n, bs, d, fun H' s' => ⟨⟨_, rfl⟩, k H' s'⟩⟩
  have r2 : Vals [V.ref a, y] [Value.ref a, u] := .cons rfl (.cons ry .nil)
  refine wpAny_call (codeAny_mono (F.run X.A X.stack s H ⟨[.ref a, u], []⟩ [.ref a, u] [.ref a, y] _ E0 room I.env0 (by
    have z := hb s [.ref a, u] I.kIn rfl
    simpa using z) r2 want) fun r s' got => ?_)
  match r, got with
  | .ok (.ret w), got =>
    obtain ⟨z, H', I', rz, ⟨b, rfl⟩, q⟩ := I.after got
    cases rz
    exact ⟨.bl b, H', I', rfl, q⟩
end
end Vm
namespace Vm
open PySem L2
abbrev sWord : Stmt := top 17
/-- one of the items, or of the signs, by a draw -/
def spPick (K : PySem.W.Frag) : Sp := fun vs H Q _ => ∃ (s l : Addr) (y : V) (ms : List Int) (z b : Int), vs = [.ref s, y] ∧ Src H s l ms z b ∧ 0 ≤ b ∧ b < 1000000 ∧
  ((∃ (p : Addr) (xs : List V), y = .ref p ∧ (∀ H', But s l H H' → SqL K H' p xs) ∧ 0 < xs.length ∧ xs.length ≤ 1000 ∧ ∀ (H' : Hp) (ms' : List Int) (v : V), But s l H H' → Src H' s l ms' z (b + 1) → v ∈ xs → Q v H') ∨
    ∃ t : Str, y = .str t ∧ 0 < t.length ∧ t.length ≤ 1000 ∧ ∀ (H' : Hp) (ms' : List Int) (c : Nat), But s l H H' → Src H' s l ms' z (b + 1) → c ∈ t.cps.toList → Q (.str ⟨#[c]⟩) H')
structure TxtL (K : PySem.W.Frag) (mg : Str → Option Value) (fD fP : Addr) : Prop extends TxtA K mg where
  gD : mg "_law_draw" = some (.ref fD)
  kD : PySem.W.keepIn K (.ref fD) = true
  gP : mg "_law_pick" = some (.ref fP)
  kP : PySem.W.keepIn K (.ref fP) = true
section
variable {P : Program} {w : World} {K : PySem.W.Frag} {mg : Str → Option Value} {base : Heap} {fD fP : Addr}
theorem scPick : FnScope ["_law_source_here", "_law_items"] ["_law_source_here", "_law_items"] (defScope sPick) := ⟨rfl, rfl, rfl, by decide +kernel, rfl, by decide +kernel, by decide +kernel⟩
theorem ok_pick {f : Addr} {fd fdD : FuncData} (F : Fun K "_law_pick" "_law_pick" sPick f fd) (T : TxtL K mg fD fP) (GD : FnOk P w K mg base CX0 1 fD fdD ["_law_source_here", "_law_many"] spDraw) (bD : Binds K fdD ["_law_source_here", "_law_many"] []) :
    FnOk P w K mg base CX0 2 f fd ["_law_source_here", "_law_items"] (spPick K) := by
  refine F.ok scPick (fun vs H Q E h => ?_) (fun cdv A outer s H vs Q E hr h => ?_)
  · obtain ⟨s, l, y, ms, z, b, rfl, _⟩ := h
    rfl
  · obtain ⟨a, l, y, ms, z, b, rfl, hs, b0, b1, h⟩ := h
    refine ⟨_, pss_one (ps_ret (pe_ix ix_seq (pv 1) (pe_call GD hr rfl T.gD T.kD bD .nil pass0 (pa_cons (pv 0) (pa_cons (pe_callB call_len (by rfl) T.len (by decide +kernel) (pa_cons (pv 1) pa_nil)) pa_nil))) (fun _ _ => rfl))), ?_⟩
    rcases h with ⟨p, xs, rfl, st, x0, x1, k⟩ | ⟨t, rfl, x0, x1, k⟩
    · refine ⟨_, rfl, _, rfl, _, rfl, _, xs.length, rfl, .inl ⟨xs, st H (fun _ _ _ _ e => e), rfl⟩, a, l, ms, z, b, xs.length, rfl, hs, by omega, by omega, b0, b1, fun H' ms' r k1 hs1 r0 r1 => ?_⟩
      obtain ⟨j, rfl⟩ : ∃ j : Nat, r = (j : Int) := ⟨r.toNat, by omega⟩
      have hj : j < xs.length := by omega
      exact .inl ⟨p, xs, j, xs[j], rfl, rfl, st H' k1, atI_nat (List.getElem?_eq_getElem hj), k H' ms' _ k1 hs1 (List.getElem_mem hj)⟩
    · have big : sizeLine > 1000 := by decide
      refine ⟨_, rfl, _, rfl, _, rfl, _, t.length, rfl, ⟨by omega, rfl⟩, a, l, ms, z, b, t.length, rfl, hs, by omega, by omega, b0, b1, fun H' ms' r k1 hs1 r0 r1 => ?_⟩
      obtain ⟨j, rfl⟩ : ∃ j : Nat, r = (j : Int) := ⟨r.toNat, by omega⟩
      have hl : t.length = t.cps.toList.length := by
        show t.cps.size = _
        simp
      have hj : j < t.cps.toList.length := by omega
      exact .inr (.inr ⟨t, j, t.cps.toList[j], rfl, rfl, by omega, atI_nat (List.getElem?_eq_getElem hj), k H' ms' _ k1 hs1 (List.getElem_mem hj)⟩)
end
end Vm
namespace Vm
open PySem L2
def lets (cs : List Nat) : List Str := cs.map fun c => ⟨#[c]⟩
theorem lets_join : ∀ cs : List Nat, (Str.join (Str.ofString "") (lets cs)).cps.toList = cs
  | [] => rfl
  | [c] => rfl
  | c :: d :: r => by
    have ih := lets_join (d :: r)
    show ((⟨#[c]⟩ : Str) ++ Str.ofString "" ++ Str.join (Str.ofString "") (lets (d :: r))).cps.toList = _
    show ((#[c] ++ (Str.ofString "").cps) ++ (Str.join (Str.ofString "") (lets (d :: r))).cps).toList = _
    have e : (Str.ofString "").cps = #[] := by decide +kernel
    rw [e, Array.toList_append, Array.toList_append, ih]
    rfl
theorem lets_nm {cs : List Nat} (h1 : 1 ≤ cs.length) (h8 : cs.length ≤ 8) (low : ∀ c ∈ cs, lowB c = true) : nmS (Str.join (Str.ofString "") (lets cs)) = true := by
  have j := lets_join cs
  have l : (Str.join (Str.ofString "") (lets cs)).length = cs.length := by
    show (Str.join (Str.ofString "") (lets cs)).cps.size = _
    rw [← Array.length_toList, j]
  unfold nmS
  rw [l, j, decide_eq_true h1, decide_eq_true h8, Bool.true_and, Bool.true_and]
  exact List.all_eq_true.mpr low
end Vm
namespace Vm
open PySem L2
def letters : Str := "abcdefghijklmnopqrstuvwxyz"
def words : List Str := ["a", "b", "ab", "ba", "t", "p", "names", "row", "insert", "key", "old", "abcdefgh", "abcdefgz", "z"]
theorem letters_low : letters.cps.toList.all lowB = true := by decide +kernel
theorem words_nm : words.all nmS = true := by decide +kernel
theorem lets_sum : ∀ cs : List Nat, ((lets cs).map (·.length)).sum = cs.length
  | [] => rfl
  | c :: r => by
    have ih := lets_sum r
    show ((⟨#[c]⟩ : Str).length :: (lets r).map (·.length)).sum = _
    rw [List.sum_cons, ih, List.length_cons]
    show 1 + _ = _
    omega
/-- a name -/
def spWord : Sp := fun vs H Q _ => ∃ (s l : Addr) (ms : List Int) (z b : Int), vs = [.ref s] ∧ Src H s l ms z b ∧ 0 ≤ b ∧ b < 900000 ∧
  ∀ (H' : Hp) (ms' : List Int) (b' : Int) (x : Str), But s l H H' → Src H' s l ms' z b' → b ≤ b' → b' ≤ b + 12 → nmS x = true → Q (.str x) H'
section
variable {P : Program} {w : World} {K : PySem.W.Frag} {mg : Str → Option Value} {base : Heap} {fD fP : Addr}
theorem scWord : FnScope ["_law_source_here", "_law_letters", "_law_some", "_law_way", "_law_k"] ["_law_source_here"] (defScope sWord) := ⟨rfl, rfl, rfl, by decide +kernel, rfl, by decide +kernel, by decide +kernel⟩
theorem ok_word {f : Addr} {fd fdD fdP : FuncData} (F : Fun K "_law_word" "_law_word" sWord f fd) (T : TxtL K mg fD fP) (GD : FnOk P w K mg base CX0 1 fD fdD ["_law_source_here", "_law_many"] spDraw) (bD : Binds K fdD ["_law_source_here", "_law_many"] [])
    (GP : FnOk P w K mg base CX0 2 fP fdP ["_law_source_here", "_law_items"] (spPick K)) (bP : Binds K fdP ["_law_source_here", "_law_items"] []) : FnOk P w K mg base CX0 3 f fd ["_law_source_here"] spWord := by
  refine F.ok scWord (fun vs H Q E h => ?_) (fun cdv A outer s H vs Q E hr h => ?_)
  · obtain ⟨s, l, ms, z, b, rfl, _⟩ := h
    rfl
  · obtain ⟨a, l, ms, z, b, rfl, hs, b0, b1, k⟩ := h
    have hr1 : Room 1 _ := hr.mono (by decide)
    refine ⟨_, pss_cons (ps_set (i := 1) scWord.nd rfl (Or.inr rfl) pe_str)
      (pss_cons (ps_set (i := 2) scWord.nd rfl (Or.inl rfl) (pe_lst (pa_cons pe_str (pa_cons pe_str (pa_cons pe_str (pa_cons pe_str (pa_cons pe_str (pa_cons pe_str (pa_cons pe_str (pa_cons pe_str (pa_cons pe_str (pa_cons pe_str (pa_cons pe_str
        (pa_cons pe_str (pa_cons pe_str (pa_cons pe_str pa_nil))))))))))))))))
      (pss_cons (ps_set (i := 3) scWord.nd rfl (Or.inl rfl) (pe_call GD hr1 rfl T.gD T.kD bD .nil pass0 (pa_cons (pv 0) (pa_cons pe_int pa_nil))))
      (pss_cons (ps_if (pt_cmpR op_lt (pv 3) pe_int (nomark _)) (pss_one (ps_ret (pe_ix ix_list (pv 2) (pv 3) (fun _ _ => rfl)))) pss_nil)
      (pss_one (ps_ret (pe_join pe_str (pe_lc (own := [("_law_k", 4)]) (g := gName 4) (tt := tYes) rfl scWord.nd (pi_range1 rfl T.range (pa_cons (pe_op op_add pe_int (pe_call GD hr1 rfl T.gD T.kD bD .nil pass0 (pa_cons (pv 0) (pa_cons pe_int pa_nil)))) pa_nil))
          (blkOk_by (N := ["_law_source_here", "_law_letters", "_law_some", "_law_way", "_law_k"]) (sc := defScope sWord) (by decide +kernel)) (fun _ _ _ _ _ => pg_name (i := 4) scWord.nd rfl (Or.inl rfl)) (fun _ _ _ _ _ => pts_nil)
          (fun _ _ _ _ _ => pe_call GP hr rfl T.gP T.kP bP .nil pass0 (pa_cons (pv 0) (pa_cons (pv 1) pa_nil)))))))))), ?_⟩
    have big : sizeLine > 1000 := by decide
    refine ⟨by show 14 ≤ sizeLine; decide, fun p hp => ?_⟩
    have pa : p ≠ a := fun e => by
      rw [e, hs.hs] at hp
      cases hp
    have pl : p ≠ l := fun e => by
      rw [e, hs.hl] at hp
      cases hp
    have s0 : Same H (upd H p (.lst (words.map V.str))) := fun c o e => by
      rw [upd_ne (ne_of_none e hp)]
      exact e
    have hs0 := hs.but s0
    have e0 : upd H p (.lst (words.map V.str)) p = some (.lst (words.map V.str)) := upd_same
    have k0 : But a l H (upd H p (.lst (words.map V.str))) := .of_same s0
    show tSeq _ _ _ _ (upd H p (.lst (words.map V.str)))
    generalize upd H p (.lst (words.map V.str)) = H0 at hs0 e0 k0 ⊢
    refine ⟨_, rfl, a, l, ms, z, b, 20, rfl, hs0, by decide, by decide, b0, by omega, fun H1 ms1 way k1 hs1 w0 w1 => ?_⟩
    have k01 := k0.trans k1
    have e1 := k1 p _ pa pl e0
    refine ⟨_, rfl, _, _, rfl, rfl, _, rfl, ?_⟩
    refine ite_ (fun c => ?_) (fun c => ?_)
    · obtain ⟨j, rfl⟩ : ∃ j : Nat, way = (j : Int) := ⟨way.toNat, by omega⟩
      have hj : j < words.length := by
        show j < 14
        omega
      refine ⟨_, rfl, _, rfl, p, words.map V.str, j, .str words[j], rfl, rfl, SqL.of e1, atI_nat (by rw [List.getElem?_map, List.getElem?_eq_getElem hj]; rfl), ?_⟩
      exact k H1 ms1 (b + 1) _ k01 hs1 (by omega) (by omega) (List.all_eq_true.mp words_nm _ (List.getElem_mem hj))
    · refine ⟨⟨_, rfl⟩, _, rfl, a, l, ms1, z, b + 1, 8, rfl, hs1, by decide, by decide, by omega, by omega, fun H2 ms2 r k2 hs2 r0 r1 => ⟨_, _, rfl, rfl, 1 + r, rfl, by omega, by omega, fun D hD => ?_⟩⟩
      have Da : D ≠ a := fun e => by
        rw [e, hs2.hs] at hD
        cases hD
      have Dl : D ≠ l := fun e => by
        rw [e, hs2.hl] at hD
        cases hD
      have k02 := k01.trans k2
      have hD0 : H D = none := by
        cases q : H D with
        | none => rfl
        | some o =>
          rw [k02 D o Da Dl q] at hD
          cases hD
      refine lc_range (lo := 0) (n := (1 + r).toNat) (fun i H' => ∃ (ms' : List Int) (cs : List Nat), But a l H H' ∧ Src H' a l ms' z (b + 2 + (i : Int)) ∧ H' D = some (.lst ((lets cs).map V.str)) ∧ cs.length = i ∧ ∀ c ∈ cs, lowB c = true) ?_ ?_ ?_
      · refine ⟨ms2, [], k02.fresh hD, ?_, upd_same, rfl, fun c h => nomatch h⟩
        have y := hs2.but (H' := upd H2 D (.lst [])) fun c o e => by
          rw [upd_ne (ne_of_none e hD)]
          exact e
        have z1 : b + 1 + 1 = b + 2 + ((0 : Nat) : Int) := by omega
        rw [z1] at y
        exact y
      · rintro i H3 hi ⟨ms3, cs, k3, hs3, e3, lc, low⟩
        refine ⟨rfl, ?_⟩
        dsimp only [tYes]
        rw [if_pos rfl]
        refine ⟨_, rfl, _, rfl, a, l, _, ms3, z, b + 2 + (i : Int), rfl, hs3, by omega, by omega, .inr ⟨letters, rfl, by decide +kernel, by decide +kernel, fun H4 ms4 c k4 hs4 hc => ?_⟩⟩
        have e4 := k4 D _ Da Dl e3
        refine ⟨_, e4, ?_, ms4, cs ++ [c], ?_, ⟨?_, ?_, hs4.len⟩, ?_, ?_, ?_⟩
        · rw [List.length_map]
          unfold lets
          rw [List.length_map]
          omega
        · intro x o n1 n2 e
          rw [upd_ne (fun q => by rw [q, hD0] at e; exact nomatch e)]
          exact k4 x o n1 n2 (k3 x o n1 n2 e)
        · rw [upd_ne Da.symm, show b + 2 + ((i + 1 : Nat) : Int) = b + 2 + (i : Int) + 1 by omega]
          exact hs4.hs
        · rw [upd_ne Dl.symm]
          exact hs4.hl
        · rw [upd_same]
          unfold lets
          rw [List.map_append, List.map_append]
          rfl
        · rw [List.length_append, lc]
          rfl
        · intro x hx
          rcases List.mem_append.mp hx with q | q
          · exact low x q
          · rw [List.mem_singleton.mp q]
            exact List.all_eq_true.mp letters_low c hc
      · rintro H3 ⟨ms3, cs, k3, hs3, e3, lc, low⟩
        have l1 : 1 ≤ cs.length := by omega
        have l8 : cs.length ≤ 8 := by omega
        refine ⟨_, D, lets cs, rfl, rfl, .inl (SqL.of e3), ?_, ?_⟩
        · have e := lets_sum cs
          have e2 : (Str.ofString "").length = 0 := by decide +kernel
          rw [e, e2]
          omega
        · rw [TL.join_eq]
          exact k H3 ms3 _ _ k3 hs3 (by omega) (by omega) (lets_nm l1 l8 low)
end
end Vm
namespace Vm
open PySem L2
abbrev sLIsName : Stmt := top 19
theorem if_as {b b' : Bool} {A B : Prop} (e : b = b') (h : if b' = true then A else B) : if b = true then A else B := by
  rw [e]
  exact h
theorem lt_one (c d : Nat) : decide ([c] < [d]) = decide (c < d) := by
  by_cases h : c < d
  · rw [decide_eq_true h]
    exact decide_eq_true (List.cons_lt_cons_iff.mpr (.inl h))
  · rw [decide_eq_false h]
    refine decide_eq_false fun z => ?_
    rcases List.cons_lt_cons_iff.mp z with z | ⟨_, z⟩
    · exact h z
    · exact absurd z (List.not_lt_nil _)
section
variable {X : Cx}
/-- a list beside an empty one -/
def rNil (K : PySem.W.Frag) : R2 := fun x y H Q => ∃ (p q : Addr) (xs : List V), x = .ref p ∧ y = .ref q ∧ SqL K H p xs ∧ SqL K H q [] ∧ Q (.bl xs.isEmpty) H
theorem op_eqNil (hu : X.A.units < cLine) : OpR X (compareOp .Eq) (rNil X.K) := by
  intro pins s σ H x y v u Q I rx ry h
  obtain ⟨p, q, xs, rfl, rfl, hp, hq, k⟩ := h
  cases rx
  cases ry
  obtain ⟨its, r, pl, _⟩ := I.list hp
  obtain ⟨its2, r2, pl2, _⟩ := I.list hq
  cases r2
  cases r with
  | nil => exact SeqAt.eq_listAt (e := fun _ => true) pl.isList pl2.isList rfl hu (fun j h1 _ => absurd h1 (by simp)) ⟨.bl true, H, I, rfl, k⟩
  | cons a b => exact SeqAt.eq_list_lengthsAt pl.isList pl2.isList (by simp) hu ⟨.bl false, H, I, rfl, k⟩
end
def offs (cs : List Nat) : List V := (cs.filter fun c => !lowB c).map fun c => V.str ⟨#[c]⟩
theorem offs_nil (cs : List Nat) : (offs cs).isEmpty = cs.all lowB := by
  induction cs with
  | nil => rfl
  | cons c r ih =>
    unfold offs at ih ⊢
    rw [List.all_cons, List.filter_cons]
    cases lowB c with
    | true => exact ih
    | false => rfl
section
variable {P : Program} {w : World} {K : PySem.W.Frag} {mg : Str → Option Value} {base : Heap} {fNm fNms : Addr}
theorem scLIsName : FnScope ["_law_it", "_law_letter"] ["_law_it"] (defScope sLIsName) := ⟨rfl, rfl, rfl, by decide +kernel, rfl, by decide +kernel, by decide +kernel⟩
theorem ok_lisname {f : Addr} {fd : FuncData} (F : Fun K "_law_is_name" "_law_is_name" sLIsName f fd) (T : TxtP K mg fNm fNms) : FnOk P w K mg base CX0 1 f fd ["_law_it"] (spTest K isNm) := by
  refine F.ok scLIsName (fun vs H Q E h => ?_) (fun cdv A outer s H vs Q E hr h => ?_)
  · obtain ⟨v, t, n, bs, rfl, _⟩ := h
    rfl
  · obtain ⟨v, t, n, bs, rfl, d, k⟩ := h
    refine ⟨_, pss_cons (ps_if (PW.pt (pw_or (pt_not (pt_truth (pe_callB call_isi (by rfl) T.isi (by decide +kernel) (pa_cons (pv 0) (pa_cons (pe_bltn (v := .ty "str") (by rfl) T.str (by decide +kernel) rfl) pa_nil))) (fun _ => rfl)))
          (pw_or1 (pt_not (pt_chain op_le op_le pe_int (pe_callB call_len_str (by rfl) T.len (by decide +kernel) (pa_cons (pv 0) pa_nil)) pe_int)))))
        (pss_one (ps_ret pe_bl)) pss_nil)
      (pss_one (ps_ret (pe_cmpR (op_eqNil hr.units0) (pe_lc (own := [("_law_letter", 1)]) (g := gName 1) rfl scLIsName.nd (pi_str (pv 0))
          (blkOk_by (N := ["_law_it", "_law_letter"]) (sc := defScope sLIsName) (by decide +kernel)) (fun _ _ _ _ _ => pg_name (i := 1) scLIsName.nd rfl (Or.inl rfl))
          (fun _ _ _ _ _ => pts_one (pt_not (pt_chain op_le_str op_le_str pe_str (pv 1) pe_str)))
          (fun _ _ _ _ _ => pv 1)) (pe_lst pa_nil) (nomark _)))), ?_⟩
    refine ⟨_, rfl, v, _, _, _, isStr t, rfl, .ty _, d.ty, kit_str t, isStr t, rfl, ?_⟩
    have no : isNm t = false → tRet (tC (.bl false)) { nx := fun _ H' => Q .non H', rt := Q } (start ["_law_it", "_law_letter"] [v]) H := fun z => by
      show Q (.bl false) H
      rw [← z]
      exact k H (Same.refl H)
    cases d with
    | @str n x h hz =>
      refine iteF ?_
      have hl : x.length = x.cps.toList.length := by
        show x.cps.size = _
        simp
      refine ⟨_, rfl, x, rfl, hz, _, _, rfl, rfl, _, rfl, ?_⟩
      refine ite_ (fun e1 => ?_) (fun e1 => ?_)
      · refine ⟨_, _, rfl, rfl, _, rfl, ?_⟩
        cases e8 : decide ((x.length : Int) ≤ 8) with
        | false =>
          refine iteT (no ?_)
          have z := of_decide_eq_false e8
          show nmS x = false
          unfold nmS
          rw [decide_eq_false (show ¬ x.length ≤ 8 by omega), Bool.false_and, Bool.and_false]
        | true =>
          have z := of_decide_eq_true e8
          refine iteF ?_
          refine ⟨_, rfl, x, rfl, fun D hD => ?_⟩
          refine lc_it (walk_str (z := x)) (fun i H' => Same H H' ∧ H' D = some (.lst (offs (x.cps.toList.take i)))) ⟨same_upd hD, upd_same⟩ (fun _ _ _ _ => True.intro) ?_ ?_
          · rintro i y H2 H3 hi ⟨s2, e2⟩ ⟨rfl, c, ec, rfl⟩
            have ec2 : x.cps.toList[i]? = some c := by
              rw [Array.getElem?_toList]
              exact ec
            have low : (decide (97 ≤ c) && decide (c ≤ 122)) = lowB c := rfl
            have step : offs (x.cps.toList.take (i + 1)) = if lowB c = true then offs (x.cps.toList.take i) else offs (x.cps.toList.take i) ++ [V.str ⟨#[c]⟩] := by
              unfold offs
              rw [List.take_add_one, ec2]
              show (((x.cps.toList.take i) ++ [c]).filter _).map _ = _
              rw [List.filter_append, List.map_append]
              cases e : lowB c with
              | true =>
                rw [if_pos rfl]
                simp [e]
              | false =>
                rw [if_neg (by decide)]
                simp [e]
            have few : (offs (x.cps.toList.take i)).length < sizeLine := by
              have l1 := List.length_filter_le (fun c => !lowB c) (x.cps.toList.take i)
              have l2 : (x.cps.toList.take i).length ≤ x.cps.toList.length := by
                rw [List.length_take]
                omega
              have big : sizeLine > 8 := by decide
              unfold offs
              rw [List.length_map]
              omega
            have put : lowB c = false → ∃ acc, H3 D = some (.lst acc) ∧ acc.length < sizeLine ∧ Same H (upd H3 D (.lst (acc ++ [V.str ⟨#[c]⟩]))) ∧ upd H3 D (.lst (acc ++ [V.str ⟨#[c]⟩])) D = some (.lst (offs (x.cps.toList.take (i + 1)))) := fun e =>
              ⟨_, e2, few, fun b o y => by
                rw [upd_ne (ne_of_none y hD)]
                exact s2 b o y, by rw [upd_same, step, if_neg (by rw [e]; decide)]⟩
            have a97 : (!decide ((⟨#[c]⟩ : Str).cps.toList < (Str.ofString "a").cps.toList)) = decide (97 ≤ c) := by
              have ea : (Str.ofString "a").cps.toList = [97] := by decide +kernel
              rw [ea]
              show (!decide ([c] < [97])) = _
              rw [lt_one]
              by_cases y : 97 ≤ c
              · rw [decide_eq_true y, decide_eq_false (by omega)]
                rfl
              · rw [decide_eq_false y, decide_eq_true (by omega)]
                rfl
            have z122 : (!(!decide ((Str.ofString "z").cps.toList < (⟨#[c]⟩ : Str).cps.toList))) = !decide (c ≤ 122) := by
              have ez : (Str.ofString "z").cps.toList = [122] := by decide +kernel
              rw [ez]
              show (!(!decide ([122] < [c]))) = _
              rw [lt_one]
              by_cases y : c ≤ 122
              · rw [decide_eq_true y, decide_eq_false (by omega)]
                rfl
              · rw [decide_eq_false y, decide_eq_true (by omega)]
                rfl
            refine ⟨rfl, _, rfl, _, _, rfl, rfl, _, rfl, ?_⟩
            refine if_as a97 (ite_ (fun y => ?_) (fun y => ?_))
            · refine ⟨_, _, rfl, rfl, _, rfl, if_as z122 (iteB (fun e => ?_) (fun e => ?_))⟩
              · have e' : lowB c = false := by
                  rw [← low]
                  rw [Bool.not_eq_true'] at e
                  rw [e, Bool.and_false]
                exact ⟨_, rfl, put e'⟩
              · have e' : lowB c = true := by
                  rw [← low]
                  rw [Bool.not_eq_false'] at e
                  rw [e, decide_eq_true y]
                  rfl
                exact ⟨s2, by rw [step, if_pos e']; exact e2⟩
            · have e' : lowB c = false := by
                rw [← low, decide_eq_false y, Bool.false_and]
              exact ⟨_, rfl, iteT ⟨_, rfl, put e'⟩⟩
          · rintro H2 ⟨s2, e2⟩
            have full : x.cps.toList.take x.cps.size = x.cps.toList := by
              rw [← Array.length_toList]
              exact List.take_length
            rw [full] at e2
            refine ⟨Nat.zero_le _, fun p hp => ?_⟩
            have s3 := s2.trans (same_upd (o := .lst []) hp)
            refine ⟨D, p, offs x.cps.toList, rfl, rfl, SqL.of (same_upd hp _ _ e2), SqL.of upd_same, ?_⟩
            have z2 : (offs x.cps.toList).isEmpty = isNm (.str x) := by
              rw [offs_nil]
              show _ = nmS x
              unfold nmS
              rw [decide_eq_true (show 1 ≤ x.length by omega), decide_eq_true (show x.length ≤ 8 by omega), Bool.true_and, Bool.true_and]
            rw [z2]
            exact k _ s3
      · refine ⟨_, rfl, iteT (no ?_)⟩
        show nmS x = false
        unfold nmS
        rw [decide_eq_false (show ¬ 1 ≤ x.length by omega), Bool.false_and]
    | _ => exact iteT (iteT (no rfl))
end
end Vm
namespace Vm
open PySem L2
abbrev sLAreNames : Stmt := top 20
section
variable {P : Program} {w : World} {K : PySem.W.Frag} {mg : Str → Option Value} {base : Heap} {fNm fNms fL : Addr}
theorem scLAreNames : FnScope ["_law_it", "_law_item"] ["_law_it"] (defScope sLAreNames) := ⟨rfl, rfl, rfl, by decide +kernel, rfl, by decide +kernel, by decide +kernel⟩
theorem ok_larenames {f : Addr} {fd fdL : FuncData} (F : Fun K "_law_are_names" "_law_are_names" sLAreNames f fd) (T : TxtP K mg fNm fNms) (GL : FnOk P w K mg base CX0 1 fL fdL ["_law_it"] (spTest K isNm)) (gL : mg "_law_is_name" = some (.ref fL))
    (kL : PySem.W.keepIn K (.ref fL) = true) (bL : Binds K fdL ["_law_it"] []) : FnOk P w K mg base CX0 2 f fd ["_law_it"] (spTest K areNms) := by
  refine F.ok scLAreNames (fun vs H Q E h => ?_) (fun cdv A outer s H vs Q E hr h => ?_)
  · obtain ⟨v, t, n, bs, rfl, _⟩ := h
    rfl
  · obtain ⟨v, t, n, bs, rfl, d, k⟩ := h
    refine ⟨_, pss_one (ps_ret (pe_and (pe_callB call_isi (by rfl) T.isi (by decide +kernel) (pa_cons (pv 0) (pa_cons (pe_bltn (v := .ty "tuple") (by rfl) T.tuple (by decide +kernel) rfl) pa_nil)))
      (pe_and (pe_cmpR op_lt (pe_callB call_len_seq (by rfl) T.len (by decide +kernel) (pa_cons (pv 0) pa_nil)) pe_int (nomark _))
        (pe_one (pe_cmpR (op_eqNil hr.units0) (pe_lc (own := [("_law_item", 1)]) (g := gName 1) rfl scLAreNames.nd (pi_tup (pv 0))
          (blkOk_by (N := ["_law_it", "_law_item"]) (sc := defScope sLAreNames) (by decide +kernel)) (fun _ _ _ _ _ => pg_name (i := 1) scLAreNames.nd rfl (Or.inl rfl))
          (fun _ _ _ _ _ => pts_one (pt_not (pt_val (pe_call GL hr rfl gL kL bL .nil pass0 (pa_cons (pv 1) pa_nil)))))
          (fun _ _ _ _ _ => pv 1)) (pe_lst pa_nil) (nomark _)))))), ?_⟩
    refine ⟨_, rfl, v, _, _, _, isTup t, rfl, .ty _, d.ty, kit_tup t, _, rfl, ?_⟩
    have no : areNms t = false → Q (.bl false) H := fun z => by
      rw [← z]
      exact k H (Same.refl H)
    cases ht : isTup t with
    | true =>
      obtain ⟨a, xs, ts, m, cs, rfl, rfl, _, ha, r, _⟩ := d.tupOf ht
      refine iteT ?_
      have hl := r.length
      refine ⟨_, rfl, a, xs, rfl, .inr ha, _, _, rfl, rfl, _, rfl, ?_⟩
      refine ite_ (fun e => ?_) (fun e => ?_)
      · refine ⟨_, rfl, a, rfl, ⟨_, ha⟩, fun D hD => ?_⟩
        refine lc_tup (K := K) (a := a) (xs := xs) (fun i H' => Same H H' ∧ ∃ acc : List V, H' D = some (.lst acc) ∧ acc.isEmpty = (ts.take i).all isNm ∧ acc.length ≤ i) ⟨same_upd hD, [], upd_same, rfl, Nat.le_refl _⟩ (fun i H' _ q => sameT q.1 ha) ?_ ?_
        · rintro i y H3 hi ⟨s3, acc, e3, em, la⟩
          obtain ⟨t, ct, et, dt, _⟩ := r.get hi
          have li : i < xs.length := (List.getElem?_eq_some_iff.mp hi).1
          have step : (ts.take (i + 1)).all isNm = ((ts.take i).all isNm && isNm t) := by
            rw [List.take_add_one, et, List.all_append]
            simp
          refine ⟨rfl, _, rfl, y, t, _, ct, rfl, dt.same s3, fun H4 s4 => ⟨_, rfl, ?_⟩⟩
          have e4 := s4 _ _ e3
          have s34 : Same H H4 := s3.trans s4
          cases eb : isNm t with
          | true =>
            refine iteF ⟨s34, acc, e4, ?_, by omega⟩
            rw [em, step, eb, Bool.and_true]
          | false =>
            refine iteT ⟨_, rfl, acc, e4, ?_, fun b o q => ?_, acc ++ [y], upd_same, ?_, ?_⟩
            · have : sizeLine > 8 := by decide
              omega
            · rw [upd_ne (ne_of_none q hD)]
              exact s34 b o q
            · rw [step, eb, Bool.and_false]
              cases acc <;> rfl
            · rw [List.length_append]
              show acc.length + 1 ≤ i + 1
              omega
        · rintro H3 ⟨s3, acc, e3, em, _⟩
          refine ⟨Nat.zero_le _, fun p hp => ?_⟩
          have s4 := s3.trans (same_upd (o := .lst []) hp)
          refine ⟨D, p, acc, rfl, rfl, SqL.of (same_upd hp _ _ e3), SqL.of upd_same, ?_⟩
          have z : acc.isEmpty = areNms (.tup ts) := by
            rw [em, hl, List.take_length]
            show _ = (decide (ts.length ≤ 2) && ts.all isNm)
            rw [decide_eq_true (by omega), Bool.true_and]
          rw [z]
          exact k _ s4
      · refine no ?_
        show (decide (ts.length ≤ 2) && ts.all isNm) = false
        rw [decide_eq_false (by omega), Bool.false_and]
    | false =>
      refine iteF (no ?_)
      cases t <;> first | rfl | cases ht
end
end Vm
namespace Vm
open PySem L2
abbrev sLIsRow : Stmt := top 27
def okAt (a : Nat) (ts : List Tr) (i : Nat) : Bool := match ts[i]? with
  | some t => if i < a then isNm t else isNum t
  | none => true
theorem okAt_all (a : Nat) (ts : List Tr) : ((ts.take a).all isNm && (ts.drop a).all isNum) = (List.range ts.length).all (okAt a ts) := by
  rw [Bool.eq_iff_iff, Bool.and_eq_true, List.all_eq_true, List.all_eq_true, List.all_eq_true]
  constructor
  · rintro ⟨h1, h2⟩ i hi
    have lt : i < ts.length := List.mem_range.mp hi
    unfold okAt
    rw [List.getElem?_eq_getElem lt]
    show (if i < a then isNm ts[i] else isNum ts[i]) = true
    by_cases c : i < a
    · rw [if_pos c]
      exact h1 _ (List.mem_of_getElem? (i := i) (by rw [List.getElem?_take_of_lt c, List.getElem?_eq_getElem lt]))
    · rw [if_neg c]
      exact h2 _ (List.mem_of_getElem? (i := i - a) (by rw [List.getElem?_drop, show a + (i - a) = i by omega, List.getElem?_eq_getElem lt]))
  · intro h
    refine ⟨fun x hx => ?_, fun x hx => ?_⟩
    · obtain ⟨i, hi, e⟩ := List.mem_iff_getElem.mp hx
      have l1 : i < a ∧ i < ts.length := by
        rw [List.length_take] at hi
        omega
      have z := h i (List.mem_range.mpr l1.2)
      unfold okAt at z
      rw [List.getElem?_eq_getElem l1.2] at z
      have z2 : (if i < a then isNm ts[i] else isNum ts[i]) = true := z
      rw [if_pos l1.1] at z2
      rw [List.getElem_take] at e
      rw [← e]
      exact z2
    · obtain ⟨i, hi, e⟩ := List.mem_iff_getElem.mp hx
      have l1 : a + i < ts.length := by
        rw [List.length_drop] at hi
        omega
      have z := h (a + i) (List.mem_range.mpr l1)
      unfold okAt at z
      rw [List.getElem?_eq_getElem l1] at z
      have z2 : (if a + i < a then isNm ts[a + i] else isNum ts[a + i]) = true := z
      rw [if_neg (by omega)] at z2
      rw [List.getElem_drop] at e
      rw [← e]
      exact z2
/-- the arguments of a table, kept in a list -/
structure Args (K : PySem.W.Frag) (H : Hp) (sm : Addr) (nm : Str) (ss zs ks : List Str) : Prop where
  ex : ∃ a1 a2 a3, H sm = some (.lst [.str nm, .ref a1, .ref a2, .ref a3]) ∧ TupE K H a1 (ss.map V.str) ∧ TupE K H a2 (zs.map V.str) ∧ TupE K H a3 (ks.map V.str)
theorem Args.same {K : PySem.W.Frag} {H H' : Hp} {sm : Addr} {nm : Str} {ss zs ks : List Str} (h : Args K H sm nm ss zs ks) (k : Same H H') : Args K H' sm nm ss zs ks := by
  obtain ⟨a1, a2, a3, h0, h1, h2, h3⟩ := h.ex
  exact ⟨a1, a2, a3, k _ _ h0, h1.same k, h2.same k, h3.same k⟩
def spLRow (K : PySem.W.Frag) : Sp := fun vs H Q _ => ∃ (sm : Addr) (nm : Str) (ss zs ks : List Str) (v : V) (t : Tr) (n : Nat) (bs : List Addr), vs = [.ref sm, v] ∧ Args K H sm nm ss zs ks ∧ Dt K H v t n bs ∧ ∀ H', Same H H' → Q (.bl (isRow ss.length zs.length t)) H'
section
variable {P : Program} {w : World} {K : PySem.W.Frag} {mg : Str → Option Value} {base : Heap} {fNm fNms fL : Addr}
theorem scLIsRow : FnScope ["_law_some", "_law_it", "_law_place", "_law_value"] ["_law_some", "_law_it"] (defScope sLIsRow) := ⟨rfl, rfl, rfl, by decide +kernel, rfl, by decide +kernel, by decide +kernel⟩
theorem ok_lisrow {f : Addr} {fd fdL : FuncData} (F : Fun K "_law_is_row" "_law_is_row" sLIsRow f fd) (T : TxtP K mg fNm fNms) (gE : mg "enumerate" = none) (GL : FnOk P w K mg base CX0 1 fL fdL ["_law_it"] (spTest K isNm)) (gL : mg "_law_is_name" = some (.ref fL))
    (kL : PySem.W.keepIn K (.ref fL) = true) (bL : Binds K fdL ["_law_it"] []) : FnOk P w K mg base CX0 2 f fd ["_law_some", "_law_it"] (spLRow K) := by
  refine F.ok scLIsRow (fun vs H Q E h => ?_) (fun cdv A outer s H vs Q E hr h => ?_)
  · obtain ⟨sm, nm, ss, zs, ks, v, t, n, bs, rfl, _⟩ := h
    rfl
  · obtain ⟨sm, nm, ss, zs, ks, v, t, n, bs, rfl, ar, d, k⟩ := h
    obtain ⟨a1, a2, a3, h0, h1, h2, h3⟩ := ar.ex
    have h1 := h1.sq
    have h2 := h2.sq
    have h3 := h3.sq
    refine ⟨_, pss_cons (ps_if (PW.pt (pw_or (pt_not (pt_val (pe_callB call_isi (by rfl) T.isi (by decide +kernel) (pa_cons (pv 1) (pa_cons (pe_bltn (v := .ty "tuple") (by rfl) T.tuple (by decide +kernel) rfl) pa_nil)))))
          (pw_or1 (pt_cmpR op_ne (pe_callB call_len_seq (by rfl) T.len (by decide +kernel) (pa_cons (pv 1) pa_nil))
            (pe_op op_add (pe_callB call_len_seq (by rfl) T.len (by decide +kernel) (pa_cons (pe_ix ix_list (pv 0) pe_int (fun _ _ => rfl)) pa_nil)) (pe_callB call_len_seq (by rfl) T.len (by decide +kernel) (pa_cons (pe_ix ix_list (pv 0) pe_int (fun _ _ => rfl)) pa_nil))) (nomark _)))))
        (pss_one (ps_ret pe_bl)) pss_nil)
      (pss_cons (ps_for PassesOwn.never rfl (pi_enumT rfl gE (pa_cons (pv 1) pa_nil)) (pg_tup rfl (pgs_cons (pg_name (i := 2) scLIsRow.nd rfl (Or.inl rfl)) (pgs_cons (pg_name (i := 3) scLIsRow.nd rfl (Or.inl rfl)) pgs_nil)))
        (pss_cons (ps_if (PW.pt (pw_and (pt_cmpR op_lt (pv 2) (pe_callB call_len_seq (by rfl) T.len (by decide +kernel) (pa_cons (pe_ix ix_list (pv 0) pe_int (fun _ _ => rfl)) pa_nil)) (nomark _))
              (pw_and1 (pt_not (pt_val (pe_call GL hr rfl gL kL bL .nil pass0 (pa_cons (pv 3) pa_nil)))))))
            (pss_one (ps_ret pe_bl)) pss_nil)
        (pss_one (ps_if (PW.pt (pw_and (pt_cmpR op_ge (pv 2) (pe_callB call_len_seq (by rfl) T.len (by decide +kernel) (pa_cons (pe_ix ix_list (pv 0) pe_int (fun _ _ => rfl)) pa_nil)) (nomark _))
              (pw_and1 (PW.pt (pw_or (pt_val (pe_callB call_isi (by rfl) T.isi (by decide +kernel) (pa_cons (pv 3) (pa_cons (pe_bltn (v := .ty "bool") (by rfl) T.bool (by decide +kernel) rfl) pa_nil))))
                (pw_or1 (pt_not (pt_val (pe_callB call_isi (by rfl) T.isi (by decide +kernel) (pa_cons (pv 3) (pa_cons (pe_bltn (v := .ty "int") (by rfl) T.int (by decide +kernel) rfl) pa_nil)))))))))))
            (pss_one (ps_ret pe_bl)) pss_nil))))
      (pss_one (ps_ret pe_bl))), ?_⟩
    have it1 : ∀ {H' : Hp}, Same H H' → SqL K H' sm [.str nm, .ref a1, .ref a2, .ref a3] := fun {H'} s' => SqL.of (s' _ _ h0)
    have no : ∀ H', Same H H' → isRow ss.length zs.length t = false → Q (.bl false) H' := fun H' s' z => by
      rw [← z]
      exact k H' s'
    refine ⟨_, rfl, v, _, _, _, isTup t, rfl, .ty _, d.ty, kit_tup t, _, rfl, ?_⟩
    cases ht : isTup t with
    | false =>
      refine iteT (iteT (no H (Same.refl H) ?_))
      cases t <;> first | rfl | cases ht
    | true =>
      obtain ⟨b, xs, ts, m, cs, rfl, rfl, _, hb, r, _⟩ := d.tupOf ht
      have hl := r.length
      refine iteF ?_
      refine ⟨_, rfl, b, xs, rfl, .inr hb, _, rfl, sm, _, 1, .ref a1, rfl, rfl, it1 (Same.refl H), rfl, a1, _, rfl, .inr h1, _, rfl, sm, _, 2, .ref a2, rfl, rfl, it1 (Same.refl H), rfl, a2, _, rfl, .inr h2, _, _, rfl, rfl, rfl, _, rfl, ?_⟩
      refine iteB (fun e => ?_) (fun e => ?_)
      · refine no H (Same.refl H) ?_
        show (decide (ts.length = ss.length + zs.length) && _) = false
        rw [Bool.not_eq_true', decide_eq_false_iff_not, List.length_map, List.length_map] at e
        rw [decide_eq_false (fun z => e (by rw [hl, z]; rfl)), Bool.false_and]
      have el : ts.length = ss.length + zs.length := by
        rw [Bool.not_eq_false', decide_eq_true_eq, List.length_map, List.length_map] at e
        have := V.int.inj e
        omega
      have row : isRow ss.length zs.length (.tup ts) = (List.range ts.length).all (okAt ss.length ts) := by
        rw [← okAt_all]
        show (decide (ts.length = ss.length + zs.length) && _) = _
        rw [decide_eq_true el, Bool.true_and]
      have bad : ∀ {i : Nat}, i < ts.length → okAt ss.length ts i = false → isRow ss.length zs.length (.tup ts) = false := fun {i} hi z => by
        rw [row]
        refine Bool.eq_false_iff.mpr fun y => ?_
        have := List.all_eq_true.mp y i (List.mem_range.mpr hi)
        rw [z] at this
        cases this
      refine ⟨_, rfl, b, xs, rfl, hb, for_it (walk_enumT (K := K) (a := b) (xs := xs)) (fun i σ H' => ∃ v2 v3 : Option V, σ = [some (.ref sm), some (.ref b), v2, v3] ∧ Same H H' ∧ ∀ j, j < i → okAt ss.length ts j = true) ⟨none, none, rfl, Same.refl H, fun j hj => absurd hj (Nat.not_lt_zero j)⟩
        (fun i σ H' _ ⟨_, _, _, s', _⟩ => sameT s' hb) ?_ ?_⟩
      · rintro i y σ H2 H3 hi ⟨v2, v3, rfl, s2, ok⟩ ⟨T1, x1, x2, rfl, hT, rfl, g1, g2⟩
        cases g1
        have s3 : Same H (upd H2 T1 (.tup [.int (i : Nat), x2])) := s2.trans (same_upd hT)
        obtain ⟨t, ct, et, dt, _⟩ := r.get g2
        have it : i < ts.length := by omega
        have at_i : okAt ss.length ts i = if i < ss.length then isNm t else isNum t := by
          unfold okAt
          rw [et]
        refine ⟨T1, _, rfl, SqT.of upd_same, rfl, _, _, rfl, _, _, rfl, rfl, ?_⟩
        refine ⟨_, rfl, _, rfl, sm, _, 1, .ref a1, rfl, rfl, it1 s3, rfl, a1, _, rfl, .inr (sameT s3 h1), _, _, rfl, rfl, _, rfl, ?_⟩
        rw [List.length_map]
        refine ite_ (fun c => ?_) (fun c => ?_)
        · have c' : i < ss.length := by omega
          rw [if_pos c'] at at_i
          refine ⟨_, rfl, x2, t, _, ct, rfl, dt.same s3, fun H4 s4 => ⟨_, rfl, ?_⟩⟩
          have s34 := s3.trans s4
          cases eb : isNm t with
          | false =>
            refine iteT (no H4 s34 (bad it ?_))
            rw [at_i, eb]
          | true =>
            refine iteF ?_
            refine ⟨_, rfl, _, rfl, sm, _, 1, .ref a1, rfl, rfl, it1 s34, rfl, a1, _, rfl, .inr (sameT s34 h1), _, _, rfl, rfl, _, rfl, ?_⟩
            rw [List.length_map]
            refine ite_ (fun c2 => absurd c2 (by omega)) (fun _ => ?_)
            refine iteF ⟨_, _, rfl, s34, fun j hj => ?_⟩
            by_cases q : j = i
            · rw [q, at_i, eb]
            · exact ok j (by omega)
        · have c' : ¬ i < ss.length := by omega
          rw [if_neg c'] at at_i
          refine iteF ?_
          refine ⟨_, rfl, _, rfl, sm, _, 1, .ref a1, rfl, rfl, it1 s3, rfl, a1, _, rfl, .inr (sameT s3 h1), _, _, rfl, rfl, _, rfl, ?_⟩
          rw [List.length_map]
          refine ite_ (fun c2 => ?_) (fun c2 => absurd (show ((ss.length : Nat) : Int) ≤ (i : Int) by omega) c2)
          refine ⟨_, rfl, x2, _, _, _, isBl t, rfl, .ty _, (dt.same s3).ty, kit_bl t, _, rfl, ?_⟩
          cases eb : isBl t with
          | true =>
            refine iteT (iteT (no _ s3 (bad it ?_)))
            rw [at_i]
            cases t <;> first | rfl | cases eb
          | false =>
            refine iteF ?_
            refine ⟨_, rfl, x2, _, _, _, isInt t, rfl, .ty _, (dt.same s3).ty, kit_int t, _, rfl, ?_⟩
            cases ei : isInt t with
            | false =>
              refine iteT (no _ s3 (bad it ?_))
              rw [at_i]
              cases t <;> first | rfl | cases ei
            | true =>
              refine iteF ⟨_, _, rfl, s3, fun j hj => ?_⟩
              by_cases q : j = i
              · rw [q, at_i]
                cases t <;> first | rfl | (cases eb; done) | (cases ei; done)
              · exact ok j (by omega)
      · rintro σ H2 ⟨v2, v3, rfl, s2, ok⟩
        show Q (.bl true) H2
        have z : isRow ss.length zs.length (.tup ts) = true := by
          rw [row]
          exact List.all_eq_true.mpr fun j hj => ok j (by have := List.mem_range.mp hj; omega)
        rw [← z]
        exact k H2 s2
end
end Vm
namespace Vm
open PySem L2
/-! a key: some of the columns, in their order: two ways to say it -/
def sub : List Tr → List Str → Bool
  | [], _ => true
  | _ :: _, [] => false
  | t :: r, c :: cs => if isS c t = true then sub r cs else sub (t :: r) cs
theorem sameS_mem : ∀ {ts : List Tr} {X : List Str}, sameS ts X = true → ∀ z, ts.any (isS z) = true → z ∈ X
  | [], _, _, z, h => by cases h
  | t :: r, [], h, _, _ => by cases h
  | t :: r, c :: cs, h, z, m => by
    have h2 : (isS c t && sameS r cs) = true := h
    rw [Bool.and_eq_true] at h2
    rw [List.any_cons, Bool.or_eq_true] at m
    rcases m with m | m
    · cases t with
      | str y =>
        have e1 : y = c := beq_iff_eq.mp h2.1
        have e2 : y = z := beq_iff_eq.mp m
        rw [← e2, e1]
        exact List.mem_cons_self
      | _ => cases m
    · exact List.mem_cons_of_mem _ (sameS_mem h2.2 z m)
theorem isS_inj {t : Tr} {c z : Str} (h : isS c t = true) (h2 : isS z t = true) : z = c := by
  cases t with
  | str y =>
    have e1 : y = c := beq_iff_eq.mp h
    have e2 : y = z := beq_iff_eq.mp h2
    rw [← e2, e1]
  | _ => cases h
theorem sub_key : ∀ (cols : List Str), cols.Nodup → ∀ ts : List Tr, sub ts cols = sameS ts (cols.filter fun z => ts.any (isS z))
  | [], _, [] => rfl
  | [], _, t :: r => rfl
  | c :: cs, nd, [] => by
    have e : ((c :: cs).filter fun z => ([] : List Tr).any (isS z)) = [] := by simp
    rw [e]
    rfl
  | c :: cs, nd, t :: r => by
    have nc : c ∉ cs := (List.nodup_cons.mp nd).1
    have ns : cs.Nodup := (List.nodup_cons.mp nd).2
    rw [List.filter_cons]
    unfold sub
    cases e : isS c t with
    | true =>
      have e2 : (t :: r).any (isS c) = true := by rw [List.any_cons, e, Bool.true_or]
      rw [if_pos rfl, if_pos e2]
      show _ = (isS c t && sameS r _)
      rw [e, Bool.true_and, sub_key cs ns r]
      congr 1
      refine List.filter_congr fun z hz => ?_
      have ne : isS z t = false := by
        cases q : isS z t with
        | false => rfl
        | true => exact absurd (isS_inj e q ▸ hz) nc
      rw [List.any_cons, ne, Bool.false_or]
    | false =>
      rw [if_neg (by decide), sub_key cs ns (t :: r)]
      cases m : (t :: r).any (isS c) with
      | false => rw [if_neg (by decide)]
      | true =>
        rw [if_pos rfl]
        have f : sameS (t :: r) (c :: cs.filter fun z => (t :: r).any (isS z)) = false := by
          show (isS c t && _) = false
          rw [e, Bool.false_and]
        rw [f]
        refine Bool.eq_false_iff.mpr fun y => nc ?_
        exact (List.mem_filter.mp (sameS_mem y c m)).1
/-- the law's walk: at is the place of the last one, plus one -/
def walkKey (cols : List Str) : Nat → List Tr → Bool
  | _, [] => true
  | k, t :: r => match t with
    | .str x => if x ∈ cols ∧ k ≤ cols.idxOf x then walkKey cols (cols.idxOf x + 1) r else false
    | _ => false
theorem sub_none {t : Tr} {r : List Tr} : ∀ {cs : List Str}, (∀ c ∈ cs, isS c t = false) → sub (t :: r) cs = false
  | [], _ => rfl
  | c :: cs, h => by
    unfold sub
    rw [h c List.mem_cons_self, if_neg (by decide)]
    exact sub_none fun d hd => h d (List.mem_cons_of_mem _ hd)
theorem sub_at {x : Str} {r : List Tr} : ∀ {c1 c2 : List Str}, x ∉ c1 → sub (.str x :: r) (c1 ++ x :: c2) = sub r c2
  | [], c2, _ => by
    show (if isS x (.str x) = true then _ else _) = _
    have e : isS x (.str x) = true := beq_self_eq_true x
    rw [if_pos e]
  | d :: c1, c2, h => by
    have nd : isS d (.str x) = false := beq_eq_false_iff_ne.mpr fun q => h (q ▸ List.mem_cons_self)
    show (if isS d (.str x) = true then _ else _) = _
    rw [if_neg (by rw [nd]; decide)]
    exact sub_at fun q => h (List.mem_cons_of_mem _ q)
theorem walk_sub : ∀ (ts : List Tr) (pre cs : List Str), (pre ++ cs).Nodup → walkKey (pre ++ cs) pre.length ts = sub ts cs
  | [], pre, cs, _ => by
    cases cs <;> rfl
  | t :: r, pre, cs, nd => by
    cases t with
    | str x =>
      show (if x ∈ pre ++ cs ∧ pre.length ≤ (pre ++ cs).idxOf x then _ else _) = _
      by_cases hc : x ∈ cs
      · obtain ⟨c1, c2, rfl⟩ := List.append_of_mem hc
        have n2 := (List.nodup_append.mp nd).2.1
        have n1 : x ∉ c1 := fun q => (List.nodup_append.mp n2).2.2 x q x List.mem_cons_self rfl
        have n0 : x ∉ pre := fun q => (List.nodup_append.mp nd).2.2 x q x (List.mem_append_right _ List.mem_cons_self) rfl
        have ix : (pre ++ (c1 ++ x :: c2)).idxOf x = (pre ++ c1).length := by
          rw [List.idxOf_append, if_neg n0, List.idxOf_append, if_neg n1, List.idxOf_cons_self, List.length_append]
          omega
        have split : pre ++ (c1 ++ x :: c2) = (pre ++ c1 ++ [x]) ++ c2 := by simp
        rw [if_pos ⟨List.mem_append_right _ hc, by rw [ix, List.length_append]; omega⟩, sub_at n1, ix]
        rw [split] at nd ⊢
        have ih := walk_sub r (pre ++ c1 ++ [x]) c2 nd
        rw [← ih, List.length_append (as := pre ++ c1)]
        rfl
      · rw [if_neg]
        · refine (sub_none fun c hc' => ?_).symm
          exact beq_eq_false_iff_ne.mpr fun q => hc (q ▸ hc')
        · rintro ⟨m, le⟩
          rcases List.mem_append.mp m with m | m
          · rw [List.idxOf_append, if_pos m] at le
            have := List.idxOf_lt_length_of_mem m
            omega
          · exact hc m
    | _ => exact (sub_none fun c _ => rfl).symm
end Vm
namespace Vm
open PySem L2
abbrev sLRow : Stmt := top 26
/-- a tuple stays while the source goes on -/
theorem But.sqT {K : PySem.W.Frag} {s l a : Addr} {H H' : Hp} {ms : List Int} {z b : Int} {xs : List V} (k : But s l H H') (hs : Src H s l ms z b) (h : SqT K H a xs) : SqT K H' a xs := by
  have ne : ∀ {o : HO}, H a = some o → (∀ ys, o ≠ .lst ys) → a ≠ s ∧ a ≠ l := fun {o} e n => by
    refine ⟨fun q => ?_, fun q => ?_⟩
    · rw [q, hs.hs] at e
      exact n _ (Option.some.inj e).symm
    · rw [q, hs.hl] at e
      exact n _ (Option.some.inj e).symm
  rcases h with (h | ⟨o, h⟩) | h
  · obtain ⟨n1, n2⟩ := ne h fun ys q => nomatch q
    exact .inl (.inl (k _ _ n1 n2 h))
  · obtain ⟨n1, n2⟩ := ne h fun ys q => nomatch q
    exact .inl (.inr ⟨o, k _ _ n1 n2 h⟩)
  · exact .inr h
theorem Src.free {s l : Addr} {H : Hp} {ms : List Int} {z b : Int} (h : Src H s l ms z b) {c : Addr} (e : H c = none) : c ≠ s ∧ c ≠ l := by
  refine ⟨fun q => ?_, fun q => ?_⟩
  · rw [q, h.hs] at e
    cases e
  · rw [q, h.hl] at e
    cases e
theorem But.back {s l : Addr} {H H' : Hp} {ms : List Int} {z b : Int} (k : But s l H H') (h : Src H' s l ms z b) {c : Addr} (e : H' c = none) : H c = none := by
  obtain ⟨n1, n2⟩ := h.free e
  cases q : H c with
  | none => rfl
  | some o =>
    rw [k c o n1 n2 q] at e
    cases e
def six (far : Int) : List Int := [0, 1, -1, 7, far, 0 - far]
theorem six_small {far : Int} (h0 : 0 ≤ far) (h1 : far < 10 ^ 40) : ∀ i ∈ six far, i.natAbs < 10 ^ 40 := by
  intro i hi
  unfold six at hi
  simp only [List.mem_cons, List.not_mem_nil, or_false] at hi
  rcases hi with e | e | e | e | e | e <;> subst e
  · decide
  · decide
  · decide
  · decide
  · omega
  · omega
def fourW : List Str := ["a", "b", "ab", "abcdefgh"]
theorem fourW_nm : fourW.all nmS = true := by decide +kernel
/-- a row of the table: names, then integers -/
def spMkRow (K : PySem.W.Frag) : Sp := fun vs H Q _ => ∃ (s l sm : Addr) (ms : List Int) (z b far : Int) (nm : Str) (ss zs ks : List Str), vs = [.ref s, .ref sm, .int far] ∧ Src H s l ms z b ∧ 0 ≤ b ∧ b < 800000 ∧ Args K H sm nm ss zs ks ∧ sm ≠ s ∧ sm ≠ l ∧
  ss.length ≤ 2 ∧ zs.length ≤ 2 ∧ 0 ≤ far ∧ far < 10 ^ 40 ∧
  ∀ (H' : Hp) (ms' : List Int) (b' : Int) (p : Addr) (ns : List Str) (is : List Int), But s l H H' → Src H' s l ms' z b' → b ≤ b' → b' ≤ b + 4 → H p = none → (∃ o : Obj, H' p = some (.frz o (.tup (ns.map V.str ++ is.map V.int))) ∧ o.dict = none) → ns.length = ss.length → is.length = zs.length →
    ns.all nmS = true → (∀ i ∈ is, i.natAbs < 10 ^ 40) → Q (.ref p) H'
section
variable {P : Program} {w : World} {K : PySem.W.Frag} {mg : Str → Option Value} {base : Heap} {fD fP : Addr}
theorem scLRow : FnScope ["_law_source_here", "_law_some", "_law_far", "_law_words", "_law_column"] ["_law_source_here", "_law_some", "_law_far"] (defScope sLRow) := ⟨rfl, rfl, rfl, by decide +kernel, rfl, by decide +kernel, by decide +kernel⟩
theorem ok_lrow {f : Addr} {fd fdP : FuncData} (F : Fun K "_law_row" "_law_row" sLRow f fd) (T : TxtL K mg fD fP) (GP : FnOk P w K mg base CX0 2 fP fdP ["_law_source_here", "_law_items"] (spPick K)) (bP : Binds K fdP ["_law_source_here", "_law_items"] []) :
    FnOk P w K mg base CX0 3 f fd ["_law_source_here", "_law_some", "_law_far"] (spMkRow K) := by
  refine F.ok scLRow (fun vs H Q E h => ?_) (fun cdv A outer s H vs Q E hr h => ?_)
  · obtain ⟨s, l, sm, ms, z, b, far, nm, ss, zs, ks, rfl, _⟩ := h
    rfl
  · obtain ⟨a, l, sm, ms, z, b, far, nm, ss, zs, ks, rfl, hs, b0, b1, ar, ns1, ns2, l2, l3, f0, f1, k⟩ := h
    refine ⟨_, pss_cons (ps_setLc (i := 3) (own := [("_law_column", 4)]) (g := gName 4) (tt := tYes) rfl scLRow.nd rfl rfl (sw_true rfl rfl rfl (by decide +kernel)) (pi_tup (pe_ix ix_list (pv 1) pe_int (fun _ _ => rfl)))
          (blkOk_by (N := ["_law_source_here", "_law_some", "_law_far", "_law_words", "_law_column"]) (sc := defScope sLRow) (by decide +kernel)) (fun _ _ _ _ _ => pg_name (i := 4) scLRow.nd rfl (Or.inl rfl)) (fun _ _ _ _ _ => pts_nil)
          (fun _ _ _ _ _ => pe_call GP hr rfl T.gP T.kP bP .nil pass0 (pa_cons (pv 0) (pa_cons (pe_lst (pa_cons pe_str (pa_cons pe_str (pa_cons pe_str (pa_cons pe_str pa_nil))))) pa_nil))))
      (pss_one (ps_ret (pe_callTy call_tupleF (by rfl) T.tuple (by decide +kernel) (pa_cons (pe_op op_cat (pv 3) (pe_lc (own := [("_law_column", 4)]) (g := gName 4) (tt := tYes) rfl scLRow.nd (pi_tup (pe_ix ix_list (pv 1) pe_int (fun _ _ => rfl)))
          (blkOk_by (N := ["_law_source_here", "_law_some", "_law_far", "_law_words", "_law_column"]) (sc := defScope sLRow) (by decide +kernel)) (fun _ _ _ _ _ => pg_name (i := 4) scLRow.nd rfl (Or.inl rfl)) (fun _ _ _ _ _ => pts_nil)
          (fun _ _ _ _ _ => pe_call GP hr rfl T.gP T.kP bP .nil pass0 (pa_cons (pv 0) (pa_cons (pe_lst (pa_cons pe_int (pa_cons pe_int (pa_cons (pe_un un_neg pe_int) (pa_cons pe_int (pa_cons (pv 2) (pa_cons (pe_op op_sub pe_int (pv 2)) pa_nil))))))) pa_nil))))) pa_nil)))), ?_⟩
    have big : sizeLine > 1000 := by decide
    obtain ⟨a1, a2, a3, h0, h1, h2, h3⟩ := ar.ex
    have h1 := h1.sq
    have h2 := h2.sq
    have h3 := h3.sq
    have list_at : ∀ {H' : Hp}, But a l H H' → SqL K H' sm [.str nm, .ref a1, .ref a2, .ref a3] := fun {H'} kk => SqL.of (kk _ _ ns1 ns2 h0)
    have put : ∀ {H2 : Hp} {D : Addr} {u : HO}, H D = none → But a l H H2 → But a l H (upd H2 D u) := fun {H2 D u} hD kk c o n1 n2 e => by
      rw [upd_ne fun q => by rw [q, hD] at e; exact nomatch e]
      exact kk c o n1 n2 e
    have putS : ∀ {H2 : Hp} {D : Addr} {u : HO} {ms' : List Int} {q : Int}, D ≠ a → D ≠ l → Src H2 a l ms' z q → Src (upd H2 D u) a l ms' z q := fun {H2 D u ms' q} n1 n2 hh => ⟨by
      rw [upd_ne n1.symm]
      exact hh.hs, by
      rw [upd_ne n2.symm]
      exact hh.hl, hh.len⟩
    refine ⟨_, rfl, sm, _, 1, .ref a1, rfl, rfl, SqL.of h0, rfl, a1, rfl, ⟨_, h1⟩, fun D hD => ?_⟩
    obtain ⟨Da, Dl⟩ := hs.free hD
    refine lc_tup (K := K) (a := a1) (xs := ss.map V.str) (fun i H' => ∃ (ms' : List Int) (ys : List Str), But a l H H' ∧ Src H' a l ms' z (b + (i : Int)) ∧ H' D = some (.lst (ys.map V.str)) ∧ ys.length = i ∧ ys.all nmS = true) ?_ (fun i H' _ ⟨_, _, kk, _⟩ => kk.sqT hs h1) ?_ ?_
    · have y := putS (u := .lst []) Da Dl hs
      have z1 : b = b + ((0 : Nat) : Int) := by omega
      exact ⟨ms, [], put hD (fun _ _ _ _ e => e), by rw [← z1]; exact y, upd_same, rfl, rfl⟩
    · rintro i y H2 hi ⟨ms2, ys, k2, hs2, e2, ly, ay⟩
      refine ⟨rfl, ?_⟩
      dsimp only [tYes]
      rw [if_pos rfl]
      have li : i < ss.length := by
        have := (List.getElem?_eq_some_iff.mp hi).1
        simpa using this
      refine ⟨_, rfl, by show 4 ≤ sizeLine; decide, fun q hq => ?_⟩
      obtain ⟨qa, ql⟩ := hs2.free hq
      have hqH := k2.back hs2 hq
      have qD : q ≠ D := fun e => by
        rw [e, e2] at hq
        cases hq
      refine ⟨a, l, .ref q, ms2, z, b + (i : Int), rfl, putS qa ql hs2, by omega, by omega, .inl ⟨q, fourW.map V.str, rfl, fun H' kk => SqL.of (kk _ _ qa ql upd_same), by decide, by decide, fun H3 ms3 v k3 hs3 hv => ?_⟩⟩
      obtain ⟨x, hx, rfl⟩ := List.mem_map.mp hv
      have e3 : H3 D = some (.lst (ys.map V.str)) := k3 _ _ Da Dl (by rw [upd_ne qD.symm]; exact e2)
      refine ⟨_, e3, ?_, ms3, ys ++ [x], put hD ((put hqH k2).trans k3), ?_, ?_, ?_, ?_⟩
      · rw [List.length_map]
        omega
      · have y := putS (u := .lst (ys.map V.str ++ [V.str x])) Da Dl hs3
        rw [show b + ((i + 1 : Nat) : Int) = b + (i : Int) + 1 by omega]
        exact y
      · rw [upd_same, List.map_append]
        rfl
      · rw [List.length_append, ly]
        rfl
      · rw [List.all_append, ay, Bool.true_and]
        show (nmS x && true) = true
        rw [Bool.and_true]
        exact List.all_eq_true.mp fourW_nm x hx
    rintro H2 ⟨ms2, ys, k2, hs2, e2, ly, ay⟩
    rw [List.length_map] at hs2 ly
    refine ⟨_, rfl, _, rfl, sm, _, 2, .ref a2, rfl, rfl, list_at k2, rfl, a2, rfl, ⟨_, k2.sqT hs h2⟩, fun D2 hD2 => ?_⟩
    obtain ⟨D2a, D2l⟩ := hs2.free hD2
    have hD2H := k2.back hs2 hD2
    have DD : D2 ≠ D := fun e => by
      rw [e, e2] at hD2
      cases hD2
    refine lc_tup (K := K) (a := a2) (xs := zs.map V.str) (fun i H' => ∃ (ms' : List Int) (is : List Int), But a l H H' ∧ Src H' a l ms' z (b + (ss.length : Int) + (i : Int)) ∧ H' D2 = some (.lst (is.map V.int)) ∧ is.length = i ∧ (∀ v ∈ is, v.natAbs < 10 ^ 40) ∧ H' D = some (.lst (ys.map V.str)))
      ?_ (fun i H' _ ⟨_, _, kk, _⟩ => kk.sqT hs h2) ?_ ?_
    · have y := putS (u := .lst []) D2a D2l hs2
      refine ⟨ms2, [], put hD2H k2, ?_, upd_same, rfl, (fun v h => nomatch h), ?_⟩
      · rw [show b + (ss.length : Int) + ((0 : Nat) : Int) = b + (ss.length : Int) by omega]
        exact y
      · rw [upd_ne DD.symm]
        exact e2
    · rintro i y H3 hi ⟨ms3, is, k3, hs3, e3, li, sm3, eD⟩
      refine ⟨rfl, ?_⟩
      dsimp only [tYes]
      rw [if_pos rfl]
      have lt : i < zs.length := by
        have := (List.getElem?_eq_some_iff.mp hi).1
        simpa using this
      refine ⟨_, rfl, _, rfl, _, rfl, _, rfl, _, _, rfl, rfl, by show 6 ≤ sizeLine; decide, fun q hq => ?_⟩
      obtain ⟨qa, ql⟩ := hs3.free hq
      have hqH := k3.back hs3 hq
      have qD2 : q ≠ D2 := fun e => by
        rw [e, e3] at hq
        cases hq
      have qD : q ≠ D := fun e => by
        rw [e, eD] at hq
        cases hq
      refine ⟨a, l, .ref q, ms3, z, b + (ss.length : Int) + (i : Int), rfl, putS qa ql hs3, by omega, by omega, .inl ⟨q, (six far).map V.int, rfl, fun H' kk => SqL.of (kk _ _ qa ql upd_same), by show 0 < 6; decide, by show 6 ≤ 1000; decide, fun H4 ms4 v k4 hs4 hv => ?_⟩⟩
      obtain ⟨x, hx, rfl⟩ := List.mem_map.mp hv
      have e4 : H4 D2 = some (.lst (is.map V.int)) := k4 _ _ D2a D2l (by rw [upd_ne qD2.symm]; exact e3)
      have eD4 : H4 D = some (.lst (ys.map V.str)) := k4 _ _ Da Dl (by rw [upd_ne qD.symm]; exact eD)
      refine ⟨_, e4, ?_, ms4, is ++ [x], put hD2H ((put hqH k3).trans k4), ?_, ?_, ?_, ?_, ?_⟩
      · rw [List.length_map]
        omega
      · have y := putS (u := .lst (is.map V.int ++ [V.int x])) D2a D2l hs4
        rw [show b + (ss.length : Int) + ((i + 1 : Nat) : Int) = b + (ss.length : Int) + (i : Int) + 1 by omega]
        exact y
      · rw [upd_same, List.map_append]
        rfl
      · rw [List.length_append, li]
        rfl
      · intro v hv'
        rcases List.mem_append.mp hv' with q | q
        · exact sm3 v q
        · rw [List.mem_singleton.mp q]
          exact six_small f0 f1 x hx
      · rw [upd_ne DD.symm]
        exact eD4
    · rintro H3 ⟨ms3, is, k3, hs3, e3, li, sm3, eD⟩
      rw [List.length_map] at hs3 li
      refine ⟨D, D2, _, _, rfl, rfl, eD, e3, ?_, fun p hp => ⟨p, _, rfl, SqL.of upd_same, fun q ob hq hod => ?_⟩⟩
      · rw [List.length_map, List.length_map]
        omega
      obtain ⟨pa, pl⟩ := hs3.free hp
      have hpH := k3.back hs3 hp
      have k3' : But a l H (upd H3 p (.lst (ys.map V.str ++ is.map V.int))) := put hpH k3
      have hs3' := putS (u := .lst (ys.map V.str ++ is.map V.int)) pa pl hs3
      obtain ⟨qa, ql⟩ := hs3'.free hq
      have hqH := k3'.back hs3' hq
      exact k _ ms3 _ q ys is (put hqH k3') (putS qa ql hs3') (by omega) (by omega) hqH ⟨ob, upd_same, hod⟩ ly li ay sm3
end
end Vm
namespace Vm
open PySem PySem.W SeqAt
section
variable {prog : Program} {w : World} {A : Around} {E : Value → Shared → Prop} {s : Shared} {K : Frag} {x C f : Addr} {ox : Obj} {od : Option Obj}
/-- u == x, u of a built-in type that declines, x an instance with its own __eq__ -/
theorem cmp_right {u : Value} {T id : String} {Q : Value → Shared → Prop} (hT : s.TypeIs u T) (X : K.In s.heap) (I : InstAt s.heap x ox C od) (hu : A.units < cLine) (no : subIn K (.ref C) (.type T) = some false) (h1 : Slot T (cmpInfo .Eq).2.1 id)
    (dec : ∀ Q' : Value → Shared → Prop, Q' .notImplemented s → wpAny (model prog w) A (call (.builtin id) [u, .ref x]) Q' E s) (hs : findIn K (.ref C) (cmpInfo .Eq).2.2 = some (some (.ref f))) (hf : isFn K (.ref f) = true)
    (h : wpAny (model prog w) A (call (.ref f) [.ref x, u]) (CmpBack Q) E s) : wpAny (model prog w) A (richCompare .Eq u (.ref x)) Q E s := by
  have back : wpAny (model prog w) A (tryCompare (.ref x) (cmpInfo .Eq).2.2 u) (fun r s' => ∃ v, r = some v ∧ Q v s') E s := by
    unfold tryCompare
    refine wpAny_bind (ifBound_K X I hs hf (wpAny_mono h (fun v s' hv => ?_) fun _ _ e => e))
    cases v <;> first | exact hv.elim | exact wpAny_pure ⟨_, rfl, hv⟩
  rcases hi : cmpInfo CmpOp.Eq with ⟨sym, g, r⟩
  rw [hi] at h1 hs back
  simp only [richCompare, hi, hT.oneThing_none]
  try with_reducible refine wpAny_holding ?_
  refine wpAny_bind (wpAny_cRoomFor_or (.inr hu) ?_)
  refine wpAny_bind (wpAny_typeOf hT (wpAny_bind (I.type.here ?_)))
  have ne : (Value.type T != Value.ref C) = true := rfl
  simp only [ne, if_true]
  refine wpAny_bind ((looks_subIn X no).here ?_)
  simp only [Bool.false_eq_true, if_false, Bool.not_false, if_true]
  refine wpAny_bind (m := tryCompare u _ (.ref x)) (wpAny_tryCompare_declines hT h1 (dec _ ⟨rfl, ?_⟩))
  refine wpAny_bind (m := tryCompare (.ref x) _ u) (wpAny_mono back (fun z s' hz => ?_) fun _ _ e => e)
  obtain ⟨v, rfl, q⟩ := hz
  exact wpAny_pure q
end
end Vm
namespace Vm
open PySem PySem.W SeqAt MeetsSeq
open AutoSeq1 (wpAny_loadPart')
/-! a text, a number, None beside an instance: declined -/
theorem str_no_ins (b : Str) (u : Tok) (l C dx : Addr) : Meets (Builtin.«str.__eq__» ⟨[.str b u, .ref l], []⟩) (fun _ R s => s.heap.get? l = some (instObj C dx) ∧ R (.ok (.ret .notImplemented)) s) :=
  .of_wp fun prog w A R s h => by
    obtain ⟨hp, g, d, tk, os⟩ := s
    obtain ⟨hl, h⟩ := h
    unfold instObj at hl
    wp_walk using wpAny_loadPart' hl, wpAny_load hl
    exact ⟨_, rfl, h⟩
theorem int_no_ins (b : Int) (u : Tok) (l C dx : Addr) : Meets (Builtin.«int.__eq__» ⟨[.int b u, .ref l], []⟩) (fun _ R s => s.heap.get? l = some (instObj C dx) ∧ R (.ok (.ret .notImplemented)) s) :=
  .of_wp fun prog w A R s h => by
    obtain ⟨hp, g, d, tk, os⟩ := s
    obtain ⟨hl, h⟩ := h
    unfold instObj at hl
    wp_walk using wpAny_loadPart' hl, wpAny_load hl
    exact ⟨_, rfl, h⟩
end Vm
namespace Vm
open PySem PySem.W SeqAt MeetsSeq
open AutoSeq1 (wpAny_loadPart')
theorem tuple_no_ins {K : Frag} {C : Addr} (no : subIn K (.ref C) (.type "tuple") = some false) (t l dx : Addr) (items : Array Value) (n : Nat) (dd : Option Addr) (sl : Array (Option Value)) :
    Meets (Builtin.«tuple.__eq__» ⟨[.ref t, .ref l], []⟩) (fun _ R s => s.heap.get? t = some { cls := .type "tuple", dict := dd, data := .seq items n, slots := sl } ∧ s.heap.get? l = some (instObj C dx) ∧ K.In s.heap ∧ R (.ok (.ret .notImplemented)) s) :=
  .of_wp fun prog w A R s h => by
    obtain ⟨hp, g, d, tk, os⟩ := s
    obtain ⟨ht, hl, X, h⟩ := h
    unfold instObj at hl
    have sb := looks_subIn (M := model prog w) X no
    wp_walk using wpAny_loadPart' ht, wpAny_loadPart' hl, sb.here
    exact ⟨_, rfl, h⟩
theorem list_no_ins {K : Frag} {C : Addr} (no : subIn K (.ref C) (.type "list") = some false) (t l dx : Addr) (items : Array Value) (n : Nat) (dd : Option Addr) (sl : Array (Option Value)) :
    Meets (Builtin.«list.__eq__» ⟨[.ref t, .ref l], []⟩) (fun _ R s => s.heap.get? t = some { cls := .type "list", dict := dd, data := .seq items n, slots := sl } ∧ s.heap.get? l = some (instObj C dx) ∧ K.In s.heap ∧ R (.ok (.ret .notImplemented)) s) :=
  .of_wp fun prog w A R s h => by
    obtain ⟨hp, g, d, tk, os⟩ := s
    obtain ⟨ht, hl, X, h⟩ := h
    unfold instObj at hl
    have sb := looks_subIn (M := model prog w) X no
    wp_walk using wpAny_loadPart' ht, wpAny_loadPart' hl, sb.here
    exact ⟨_, rfl, h⟩
end Vm
namespace Vm
open PySem PySem.Spec PyProof.Rows L2 SeqAt MeetsSeq
section
variable {X : Cx} {C f : Addr} {fd : FuncData} {n : Nat}
/-- neither a bool nor a dict -/
def calmT : Tr → Bool
  | .bl _ => false
  | .dct _ _ => false
  | _ => true
/-- anything == table -/
theorem op_eqRight (F : FnOk X.prog X.w X.K X.mg X.base CX0 n f fd ["self", "other"] (spEqT X.K C)) (hs : PySem.W.findIn X.K (.ref C) "__eq__" = some (some (.ref f))) (hf : PySem.W.isFn X.K (.ref f) = true) (hb : Binds X.K fd ["self", "other"] [])
    (room : Room n X.A) (no : ∀ t : Tr, PySem.W.subIn X.K (.ref C) (.type (tyOf t)) = some false) :
    OpR X (compareOp .Eq) (fun x y H Q => ∃ (a : Addr) (nm : Str) (ss zs ks : List Str) (t : Tr) (m : Nat) (bs : List Addr), y = .ref a ∧ Tb X.K H C a nm ss zs ks ∧ Dt X.K H x t m bs ∧ calmT t = true ∧ ∀ H', Same H H' → Q (.bl false) H') := by
  intro pins s σ H x y v u Q I rx ry h
  obtain ⟨a, nm, ss, zs, ks, t, m, bs, rfl, tb, d, ct, k⟩ := h
  cases ry
  have tb0 := tb
  obtain ⟨⟨dx, a2, a3, a4, ha, _⟩, _⟩ := tb
  obtain ⟨mA, J, _⟩ := ins_get I.hok ha
  obtain ⟨od, J, _⟩ := J.look
  have ho : s.heap.get? a = some (PySem.W.instObj C dx) := J.1
  have hu := room.units0
  have run : wpAny (model X.prog X.w) X.A (call (.ref f) [.ref a, v]) (PySem.W.CmpBack (EP X pins σ Q)) X.xe s := by
    have want : spEqT X.K C [.ref a, x] H (fun z H' => z = .bl false ∧ Q z H') E0 := ⟨a, x, nm, ss, zs, ks, rfl, tb0, .inr ⟨t, m, bs, d, fun H' s' => ⟨rfl, k H' s'⟩⟩⟩
    have r2 : Vals [V.ref a, x] [Value.ref a, v] := .cons rfl (.cons rx .nil)
    refine wpAny_call (codeAny_mono (F.run X.A X.stack s H ⟨[.ref a, v], []⟩ [.ref a, v] [.ref a, x] _ E0 room I.env0 (by
      have z := hb s [.ref a, v] I.kIn rfl
      simpa using z) r2 want) fun r s' got => ?_)
    match r, got with
    | .ok (.ret w), got =>
      obtain ⟨z, H', I', rz, rfl, q⟩ := I.after got
      cases rz
      exact ⟨.bl false, H', I', rfl, q⟩
  cases d with
  | non =>
    cases rx
    exact cmp_right (T := "NoneType") rfl I.kIn J hu (no .non) PySem.F.slot_NoneType_eq (fun _ q => call_gives PySem.F.slot_NoneType_eq rfl PySem.F.entry_NoneType_eq (PySem.F.args_NoneType_eq_2 _ _) (NoneType___eq___none_ref_0 a) q) hs hf run
  | bl b => cases ct
  | int h =>
    obtain ⟨tk, rfl⟩ := rx
    exact cmp_right (T := "int") (typeIs_int s _ tk) I.kIn J hu (no (.int 0)) PySem.F.slot_int_eq (fun _ q => call_meets PySem.F.slot_int_eq (typeIs_int s _ tk) PySem.F.entry_int_eq (PySem.F.args_int_eq_2 _ _) (int_no_ins _ tk a C dx) ⟨ho, q⟩) hs hf run
  | str h hz =>
    obtain ⟨tk, rfl⟩ := rx
    exact cmp_right (T := "str") (typeIs_str s _ tk) I.kIn J hu (no (.str Str.empty)) PySem.F.slot_str_eq (fun _ q => call_meets PySem.F.slot_str_eq (typeIs_str s _ tk) PySem.F.entry_str_eq (PySem.F.args_str_eq_2 _ _) (str_no_ins _ tk a C dx) ⟨ho, q⟩) hs hf run
  | @lst n0 p xs ts bs hl rs na =>
    cases rx
    obtain ⟨its, rv, pl, _⟩ := I.list (.inl (.inl hl))
    obtain ⟨⟨c, dd, dt, sl⟩, e, hc, n', hd⟩ := pl.isList
    dsimp only at hc hd
    subst hc hd
    exact cmp_right (T := "list") ⟨_, e, rfl⟩ I.kIn J hu (no (.lst [])) PySem.F.slot_list_eq (fun _ q => call_meets PySem.F.slot_list_eq ⟨_, e, rfl⟩ PySem.F.entry_list_eq (PySem.F.args_list_eq_2 _ _) (list_no_ins (no (.lst [])) p a dx _ n' dd sl) ⟨e, ho, I.kIn, q⟩) hs hf run
  | @emp n0 p h =>
    cases rx
    obtain ⟨its, rv, ⟨⟨c, dd, dt, sl⟩, e, hc, n', hd⟩, _⟩ := I.tuple (.inr h)
    dsimp only at hc hd
    subst hc hd
    exact cmp_right (T := "tuple") ⟨_, e, rfl⟩ I.kIn J hu (no (.tup [])) PySem.F.slot_tuple_eq (fun _ q => call_meets PySem.F.slot_tuple_eq ⟨_, e, rfl⟩ PySem.F.entry_tuple_eq (PySem.F.args_tuple_eq_2 _ _) (tuple_no_ins (no (.tup [])) p a dx _ n' dd sl) ⟨e, ho, I.kIn, q⟩) hs hf run
  | @tup n0 p ob xs ts bs hl nd rs na =>
    cases rx
    obtain ⟨its, rv, ⟨⟨c, dd, dt, sl⟩, e, hc, n', hd⟩, _⟩ := I.tuple (.inl (.inr ⟨_, hl⟩))
    dsimp only at hc hd
    subst hc hd
    exact cmp_right (T := "tuple") ⟨_, e, rfl⟩ I.kIn J hu (no (.tup [])) PySem.F.slot_tuple_eq (fun _ q => call_meets PySem.F.slot_tuple_eq ⟨_, e, rfl⟩ PySem.F.entry_tuple_eq (PySem.F.args_tuple_eq_2 _ _) (tuple_no_ins (no (.tup [])) p a dx _ n' dd sl) ⟨e, ho, I.kIn, q⟩) hs hf run
  | dct h kf rs na => cases ct
end
end Vm
/-! table != table: object.__ne__ asks __eq__ -/
namespace Vm
open PySem PySem.Spec PyProof.Rows
section
variable {M : Model} {prog : Program} {w : World} {A : Around} {E : Value → Shared → Prop} {s : Shared} {K : PySem.W.Frag} {x y C D f : Addr} {ox oy : Obj} {od oe : Option Obj}
theorem ne_entry (X : K.In s.heap) (I : PySem.W.InstAt s.heap x ox C od) (hs : PySem.W.findIn K (.ref C) "__eq__" = some (some (.ref f))) (hf : PySem.W.isFn K (.ref f) = true) (hu : A.units < cLine) {Q : Fin → Shared → Prop}
    (hcall : wpAny (model prog w) A (call (.ref f) [.ref x, .ref y]) (fun v s' => ∃ b, v = .bool b ∧ Q (.done (.ret (.bool (!b)))) s') E s) :
    wpAny (model prog w) A (Builtin.«object.__ne__» ⟨[.ref x, .ref y], []⟩) Q E s := by
  unfold Builtin.«object.__ne__»
  repeat (first
    | with_reducible refine wpAny_cRoomFor hu ?_
    | (refine wpAny_bind (m := callSpecialIfBound? (.ref x) (Str.ofString "__eq__") [.ref y])
        (PySem.W.ifBound_K X I hs hf (wpAny_mono hcall (fun r s' hr => by
          obtain ⟨b, rfl, hq⟩ := hr
          repeat (first | exact hq | exact wpAny_pure hq | exact wpAny_truthy_bool hq | (refine wpAny_bind (m := truthy (.bool _)) (wpAny_truthy_bool ?_)) | wp_step)) fun _ _ e => e)))
    | wp_step)
theorem ifBound_objNe {args : List Value} {Q : Option Value → Shared → Prop} (X : K.In s.heap) (I : PySem.W.InstAt s.heap x ox C od) (hs : PySem.W.findIn K (.ref C) "__ne__" = some (some (.builtin "object.__ne__")))
    (h : wpAny M A (call (.builtin "object.__ne__") (.ref x :: args)) (fun v => Q (some v)) E s) : wpAny M A (callSpecialIfBound? (.ref x) "__ne__" args) Q E s := by
  simp only [callSpecialIfBound?, bindSpecialIfBound?]
  refine wpAny_holding (wpAny_bind (wpAny_bind (wpAny_bind (I.type.here ((PySem.W.looks_findIn X hs).here ?_)))))
  refine wpAny_bind (wpAny_askSetting (wpAny_ite ?_))
  have fin : wpAny M A (call (.builtin "object.__ne__") ([.ref x] ++ args) >>= fun v => pure (some v)) Q E s := wpAny_bind (wpAny_mono h (fun v s' h' => wpAny_pure h') fun _ _ h' => h')
  split
  · exact wpAny_bind (wpAny_of_eq (F.cmp_object.ne.bind _) (wpAny_pure (by exact fin)))
  · exact wpAny_tryCatch (wpAny_bind (wpAny_of_eq (F.cmp_object.ne.bind _) (wpAny_pure (by exact fin))))
theorem ne_own (X : K.In s.heap) (I : PySem.W.InstAt s.heap x ox C od) (J : PySem.W.InstAt s.heap y oy C oe) (hs : PySem.W.findIn K (.ref C) "__eq__" = some (some (.ref f))) (hn : PySem.W.findIn K (.ref C) "__ne__" = some (some (.builtin "object.__ne__")))
    (hm : PySem.W.mroIn K C (.type "object") = some true) (hf : PySem.W.isFn K (.ref f) = true) (hu : A.units + 1 < cLine) {Q : Value → Shared → Prop}
    (hcall : wpAny (model prog w) A.in1 (call (.ref f) [.ref x, .ref y]) (fun v s' => ∃ b, v = .bool b ∧ Q (.bool (!b)) s') E s) : wpAny (model prog w) A (richCompare .NotEq (.ref x) (.ref y)) Q E s := by
  have one : wpAny (model prog w) A (tryCompare (.ref x) "__ne__" (.ref y)) (fun r s' => ∃ v, r = some v ∧ Q v s') E s := by
    unfold tryCompare
    refine wpAny_bind (ifBound_objNe X I hn (wpAny_call (codeAny_call_builtin F.cmp_object.ne.plain F.cmpEntry_ne
      (PySem.W.check_slot F.cmpKind_ne F.cmpSplit_ne (I.type.andThen (PySem.W.looks_mroIn X hm)) (F.cmpArgs_ne _ _) (ne_entry (A := A.in1) X I hs hf hu (wpAny_mono hcall (fun v s' hv => ?_) fun _ _ e => e))))))
    obtain ⟨b, rfl, hq⟩ := hv
    first | exact ⟨b, rfl, wpAny_pure ⟨_, rfl, hq⟩⟩ | exact ⟨b, rfl, wpAny_pure (wpAny_pure ⟨_, rfl, hq⟩)⟩ | exact ⟨b, rfl, _, rfl, hq⟩
  unfold richCompare
  simp only [oneThing_ref]
  refine wpAny_holding (wpAny_bind (wpAny_cRoomFor (Nat.lt_of_succ_lt hu) ?_))
  rw [cmpInfo_NotEq]
  dsimp only
  refine wpAny_bind (I.type.here (wpAny_bind (J.type.here ?_)))
  rw [show (Value.ref C != Value.ref C) = false from by simp]
  simp only [Bool.false_eq_true, if_false]
  refine wpAny_bind (wpAny_pure ?_)
  simp only [Bool.false_eq_true, if_false]
  refine wpAny_bind (wpAny_mono one (fun r s' z => ?_) fun _ _ e => e)
  obtain ⟨v, rfl, hq⟩ := z
  first | exact wpAny_pure hq | exact wpAny_pure (wpAny_pure hq)
end
open L2
section
variable {X : Cx} {C f : Addr} {fd : FuncData} {n : Nat}
/-- table != table -/
theorem op_neOwn (F : FnOk X.prog X.w X.K X.mg X.base CX0 n f fd ["self", "other"] (spEqT X.K C)) (hs : PySem.W.findIn X.K (.ref C) "__eq__" = some (some (.ref f))) (hn : PySem.W.findIn X.K (.ref C) "__ne__" = some (some (.builtin "object.__ne__"))) (hm : PySem.W.mroIn X.K C (.type "object") = some true)
    (hf : PySem.W.isFn X.K (.ref f) = true) (hb : Binds X.K fd ["self", "other"] []) (room : Room (n + 1) X.A) : OpR X (compareOp .NotEq) (fun x y H Q => ∃ (a b : Addr) (nm : Str) (ss zs ks : List Str) (nm' : Str) (ss' zs' ks' : List Str), x = .ref a ∧ y = .ref b ∧ Tb X.K H C a nm ss zs ks ∧ Tb X.K H C b nm' ss' zs' ks' ∧
      ∀ H', Same H H' → Q (.bl (!eqTb nm ss zs ks nm' ss' zs' ks')) H') := by
  intro pins s σ H x y v u Q I rx ry h
  obtain ⟨a, b, nm, ss, zs, ks, nm', ss', zs', ks', rfl, rfl, tb, tb', k⟩ := h
  cases rx
  cases ry
  obtain ⟨⟨dx, _, _, _, ha, _⟩, _⟩ := id tb
  obtain ⟨⟨dx', _, _, _, hb', _⟩, _⟩ := id tb'
  obtain ⟨mA, J, _⟩ := ins_get I.hok ha
  obtain ⟨od, J, _⟩ := J.look
  obtain ⟨mB, J', _⟩ := ins_get I.hok hb'
  obtain ⟨od', J', _⟩ := J'.look
  have hu : X.A.units + 1 < cLine := by
    have := room.units
    omega
  refine ne_own I.kIn J J' hs hn hm hf hu ?_
  have want : spEqT X.K C [.ref a, .ref b] H (fun z H' => z = .bl (eqTb nm ss zs ks nm' ss' zs' ks') ∧ Q (.bl (!eqTb nm ss zs ks nm' ss' zs' ks')) H') E0 := ⟨a, _, nm, ss, zs, ks, rfl, tb, .inl ⟨b, nm', ss', zs', ks', rfl, tb', fun H' s' => ⟨rfl, k H' s'⟩⟩⟩
  have r2 : Vals [V.ref a, V.ref b] [Value.ref a, Value.ref b] := .cons rfl (.cons rfl .nil)
  refine wpAny_call (codeAny_mono (F.run X.A.in1 X.stack s H ⟨[.ref a, .ref b], []⟩ [.ref a, .ref b] [.ref a, .ref b] _ E0 room.in1 I.env0.in1 (by
    have z := hb s [.ref a, .ref b] I.kIn rfl
    simpa using z) r2 want) fun r s' got => ?_)
  match r, got with
  | .ok (.ret w), got =>
    obtain ⟨z, H', I', rz, rfl, q⟩ := I.after got
    cases rz
    exact ⟨_, rfl, .bl _, H', I', rfl, q⟩
end
end Vm
/-! data with the addresses out of sight: they keep a wish P -/
namespace Vm
open PySem L2
def DP (K : PySem.W.Frag) (H : Hp) (P : Addr → Prop) (v : V) (t : Tr) (n : Nat) : Prop := ∃ bs, Dt K H v t n bs ∧ ∀ b ∈ bs, P b
def DPs (K : PySem.W.Frag) (H : Hp) (P : Addr → Prop) (vs : List V) (ts : List Tr) (n : Nat) : Prop := ∃ bs, DtAll K H vs ts n bs ∧ ∀ b ∈ bs, P b
section
variable {K : PySem.W.Frag} {H H' : Hp} {P : Addr → Prop}
theorem DP.lvl {v : V} {t : Tr} {n m : Nat} (d : DP K H P v t n) (h : n ≤ m) : DP K H P v t m := let ⟨bs, d, p⟩ := d; ⟨bs, d.lvl h, p⟩
theorem DPs.lvl {v : List V} {t : List Tr} {n m : Nat} (d : DPs K H P v t n) (h : n ≤ m) : DPs K H P v t m := let ⟨bs, d, p⟩ := d; ⟨bs, d.lvl h, p⟩
theorem DP.keep {v : V} {t : Tr} {n : Nat} (d : DP K H P v t n) (k : ∀ b o, P b → H b = some o → H' b = some o) : DP K H' P v t n := let ⟨bs, d, p⟩ := d; ⟨bs, d.keep fun b hb o e => k b o (p b hb) e, p⟩
theorem DPs.keep {v : List V} {t : List Tr} {n : Nat} (d : DPs K H P v t n) (k : ∀ b o, P b → H b = some o → H' b = some o) : DPs K H' P v t n := let ⟨bs, d, p⟩ := d; ⟨bs, d.keep fun b hb o e => k b o (p b hb) e, p⟩
theorem DP.same {v : V} {t : Tr} {n : Nat} (d : DP K H P v t n) (k : Same H H') : DP K H' P v t n := d.keep fun b o _ e => k b o e
theorem DPs.same {v : List V} {t : List Tr} {n : Nat} (d : DPs K H P v t n) (k : Same H H') : DPs K H' P v t n := d.keep fun b o _ e => k b o e
theorem DP.imp {Q : Addr → Prop} {v : V} {t : Tr} {n : Nat} (d : DP K H P v t n) (k : ∀ b, P b → Q b) : DP K H Q v t n := let ⟨bs, d, p⟩ := d; ⟨bs, d, fun b hb => k b (p b hb)⟩
theorem DPs.imp {Q : Addr → Prop} {v : List V} {t : List Tr} {n : Nat} (d : DPs K H P v t n) (k : ∀ b, P b → Q b) : DPs K H Q v t n := let ⟨bs, d, p⟩ := d; ⟨bs, d, fun b hb => k b (p b hb)⟩
theorem DP.non {n : Nat} : DP K H P .non .non n := ⟨[], .non, fun _ h => nomatch h⟩
theorem DP.bl {n : Nat} (b : Bool) : DP K H P (.bl b) (.bl b) n := ⟨[], .bl b, fun _ h => nomatch h⟩
theorem DP.int {n : Nat} {i : Int} (h : i.natAbs.log2 < 1920) : DP K H P (.int i) (.int i) n := ⟨[], .int h, fun _ h => nomatch h⟩
theorem DP.str {n : Nat} {x : Str} (h : (reprText x).length ≤ sizeLine) (hz : x.length ≤ sizeLine) : DP K H P (.str x) (.str x) n := ⟨[], .str h hz, fun _ h => nomatch h⟩
theorem DPs.nil {n : Nat} : DPs K H P [] [] n := ⟨[], .nil, fun _ h => nomatch h⟩
theorem DPs.cons {v : V} {t : Tr} {vs : List V} {ts : List Tr} {n : Nat} (d : DP K H P v t n) (e : DPs K H P vs ts n) : DPs K H P (v :: vs) (t :: ts) n :=
  let ⟨bs, d, p⟩ := d
  let ⟨cs, e, q⟩ := e
  ⟨bs ++ cs, .cons d e, fun b hb => (List.mem_append.mp hb).elim (p b) (q b)⟩
theorem DPs.append {vs us : List V} {ts ws : List Tr} {n : Nat} (d : DPs K H P vs ts n) (e : DPs K H P us ws n) : DPs K H P (vs ++ us) (ts ++ ws) n :=
  let ⟨bs, d, p⟩ := d
  let ⟨cs, e, q⟩ := e
  ⟨bs ++ cs, d.append e, fun b hb => (List.mem_append.mp hb).elim (p b) (q b)⟩
theorem DPs.length {vs : List V} {ts : List Tr} {n : Nat} (d : DPs K H P vs ts n) : vs.length = ts.length := let ⟨_, d, _⟩ := d; d.length
theorem DPs.take {vs : List V} {ts : List Tr} {n : Nat} (d : DPs K H P vs ts n) (i : Nat) : DPs K H P (vs.take i) (ts.take i) n :=
  let ⟨bs, d, p⟩ := d
  let ⟨⟨cs, d', s⟩, _⟩ := d.part i
  ⟨cs, d', fun b hb => p b (s b hb)⟩
theorem DPs.drop {vs : List V} {ts : List Tr} {n : Nat} (d : DPs K H P vs ts n) (i : Nat) : DPs K H P (vs.drop i) (ts.drop i) n :=
  let ⟨bs, d, p⟩ := d
  let ⟨_, ⟨cs, d', s⟩⟩ := d.part i
  ⟨cs, d', fun b hb => p b (s b hb)⟩
theorem DPs.get {vs : List V} {ts : List Tr} {n : Nat} (d : DPs K H P vs ts n) {i : Nat} {v : V} (e : vs[i]? = some v) : ∃ t, ts[i]? = some t ∧ DP K H P v t n :=
  let ⟨bs, d, p⟩ := d
  let ⟨t, cs, e1, d1, s⟩ := d.get e
  ⟨t, e1, cs, d1, fun b hb => p b (s b hb)⟩
theorem DPs.reverse {n : Nat} : ∀ {vs : List V} {ts : List Tr}, DPs K H P vs ts n → DPs K H P vs.reverse ts.reverse n
  | _, _, ⟨_, .nil, _⟩ => .nil
  | v :: vs, t :: ts, ⟨_, .cons (bs := bs) (cs := cs) h r, p⟩ => by
    rw [List.reverse_cons, List.reverse_cons]
    exact (DPs.reverse ⟨cs, r, fun b hb => p b (List.mem_append_right _ hb)⟩).append (.cons ⟨bs, h, fun b hb => p b (List.mem_append_left _ hb)⟩ .nil)
theorem DP.mem {n : Nat} : ∀ {vs : List V} {ts : List Tr}, DPs K H P vs ts n → ∀ {v : V}, v ∈ vs → ∃ t ∈ ts, DP K H P v t n := fun {vs ts} d {v} h => by
  obtain ⟨i, hi, e⟩ := List.mem_iff_getElem.mp h
  obtain ⟨t, e2, d2⟩ := d.get (show vs[i]? = some v by rw [List.getElem?_eq_getElem hi, e])
  exact ⟨t, List.mem_of_getElem? e2, d2⟩
/-- a new tuple, a new list of data -/
theorem DPs.tup {vs : List V} {ts : List Tr} {n : Nat} {p : Addr} {o : Obj} (d : DPs K H P vs ts n) (hp : H p = none) (hP : P p) (hd : o.dict = none) : DP K (upd H p (.frz o (.tup vs))) P (.ref p) (.tup ts) (n + 1) :=
  let ⟨bs, d, q⟩ := d
  ⟨p :: bs, .tup upd_same hd (d.keep fun b _ o e => by
    rw [upd_ne (ne_of_none e hp)]
    exact e) (fun hm => by
      obtain ⟨o, e⟩ := d.there p hm
      rw [hp] at e
      cases e), fun b hb => (List.mem_cons.mp hb).elim (fun e => e ▸ hP) (q b)⟩
theorem DPs.lst {vs : List V} {ts : List Tr} {n : Nat} {p : Addr} (d : DPs K H P vs ts n) (hp : H p = none) (hP : P p) : DP K (upd H p (.lst vs)) P (.ref p) (.lst ts) (n + 1) :=
  let ⟨bs, d, q⟩ := d
  ⟨p :: bs, .lst upd_same (d.keep fun b _ o e => by
    rw [upd_ne (ne_of_none e hp)]
    exact e) (fun hm => by
      obtain ⟨o, e⟩ := d.there p hm
      rw [hp] at e
      cases e), fun b hb => (List.mem_cons.mp hb).elim (fun e => e ▸ hP) (q b)⟩
theorem DP.emptyDict {n : Nat} {p : Addr} (hP : P p) : DP K (upd H p (.dK [])) P (.ref p) (.dct [] []) (n + 1) :=
  ⟨[p], .dct (kvs := []) (bs := []) upd_same (fun _ h => nomatch h) .nil (fun h => nomatch h), fun b hb => List.mem_singleton.mp hb ▸ hP⟩
theorem DP.tupD {v : V} {t : Tr} {n : Nat} (d : DP K H P v t n) (h : isTup t = true) : ∃ (a : Addr) (xs : List V) (ts : List Tr) (m : Nat), v = .ref a ∧ t = .tup ts ∧ m < n ∧ TupE K H a xs ∧ DPs K H P xs ts m :=
  let ⟨bs, d, p⟩ := d
  let ⟨a, xs, ts, m, cs, e1, e2, l, te, r, s⟩ := d.tupD h
  ⟨a, xs, ts, m, e1, e2, l, te, cs, r, fun b hb => p b (s b hb)⟩
end
/-! sizes -/
mutual
/-- more than the text's length -/
def Tr.w : Tr → Nat
  | .tup xs => 3 + ws xs
  | .lst xs => 3 + ws xs
  | .non => 4
  | .bl _ => 5
  | .int i => (toString i : Str).length
  | .str x => (reprText x).length
  | .dct ks xs => (dictText (List.zipWith entryText (ks.map keyText) (texts xs))).length
def ws : List Tr → Nat
  | [] => 0
  | x :: r => (x.w + 2) + ws r
end
theorem ws_append : ∀ a b : List Tr, ws (a ++ b) = ws a + ws b
  | [], b => by
    show ws b = 0 + ws b
    omega
  | x :: r, b => by
    have h := ws_append r b
    show (x.w + 2) + ws (r ++ b) = (x.w + 2) + ws r + ws b
    omega
theorem ws_split (a : List Tr) (i : Nat) : ws (a.take i) + ws (a.drop i) = ws a := by
  rw [← ws_append, List.take_append_drop]
theorem ws_rev : ∀ a : List Tr, ws a.reverse = ws a
  | [] => rfl
  | x :: r => by
    have h := ws_rev r
    rw [List.reverse_cons, ws_append, h]
    show ws r + ((x.w + 2) + 0) = (x.w + 2) + ws r
    omega
theorem tupText_le (ts : List Str) : (tupleText ts).length ≤ 3 + ((ts.map (·.length)).sum + 2 * ts.length) := by
  have e2 := StrLaws.join_length_le ", " ts
  have e4 : (("(" : String) : Str).length = 1 := by decide +kernel
  have e5 : (((if (ts.length == 1) = true then ",)" else ")" : String)) : Str).length ≤ 2 := by
    split <;> decide +kernel
  have e6 : ((", " : String) : Str).length = 2 := by decide +kernel
  unfold tupleText
  rw [strLen_append, strLen_append]
  rw [e6] at e2
  omega
theorem lstText_le (ts : List Str) : (listText ts).length ≤ 3 + ((ts.map (·.length)).sum + 2 * ts.length) := by
  have e2 := textFrom_len_le ts 0 "["
  have e4 : (("[" : String) : Str).length = 1 := by decide +kernel
  have e5 : ((("]" : String) : Str)).length = 1 := by decide +kernel
  unfold listText
  rw [strLen_append]
  omega
mutual
theorem Tr.text_le : ∀ t : Tr, t.text.length ≤ t.w
  | .non => by
    show (("None" : String) : Str).length ≤ 4
    decide +kernel
  | .bl true => by
    show (("True" : String) : Str).length ≤ 5
    decide +kernel
  | .bl false => by
    show (("False" : String) : Str).length ≤ 5
    decide +kernel
  | .int i => Nat.le_refl _
  | .str x => Nat.le_refl _
  | .lst xs => by
    have h := texts_le xs
    have e := lstText_le (texts xs)
    show (listText (texts xs)).length ≤ 3 + ws xs
    omega
  | .tup xs => by
    have h := texts_le xs
    have e := tupText_le (texts xs)
    show (tupleText (texts xs)).length ≤ 3 + ws xs
    omega
  | .dct ks xs => Nat.le_refl _
theorem texts_le : ∀ ts : List Tr, ((texts ts).map (·.length)).sum + 2 * (texts ts).length ≤ ws ts
  | [] => Nat.zero_le _
  | x :: r => by
    have h1 := x.text_le
    have h2 := texts_le r
    show ((x.text :: texts r).map (·.length)).sum + 2 * (x.text :: texts r).length ≤ (x.w + 2) + ws r
    rw [List.map_cons, List.sum_cons, List.length_cons]
    omega
end
/-- away from the source of draws -/
def Off (s l : Addr) (b : Addr) : Prop := b ≠ s ∧ b ≠ l
theorem DP.but {K : PySem.W.Frag} {H H' : Hp} {s l : Addr} {v : V} {t : Tr} {n : Nat} (d : DP K H (Off s l) v t n) (k : But s l H H') : DP K H' (Off s l) v t n := d.keep fun b o p e => k b o p.1 p.2 e
theorem DPs.but {K : PySem.W.Frag} {H H' : Hp} {s l : Addr} {v : List V} {t : List Tr} {n : Nat} (d : DPs K H (Off s l) v t n) (k : But s l H H') : DPs K H' (Off s l) v t n := d.keep fun b o p e => k b o p.1 p.2 e
theorem Src.off {s l : Addr} {H : Hp} {ms : List Int} {z b : Int} (h : Src H s l ms z b) : ∀ c, H c = none → Off s l c := fun c e => h.free e
end Vm
/-! rules over data: slices, sums, displays -/
namespace Vm
open PySem PySem.Spec PyProof.Rows L2
def cutL {α : Type} (xs : List α) (lo hi : Option Int) : List α := (xs.drop (HT.sIx xs.length 0 lo)).take (HT.sIx xs.length xs.length hi - HT.sIx xs.length 0 lo)
section
variable {X : Cx}
theorem _root_.L2.PE.wk {e : Expr} {t t' : TE} (h : PE X e t') (m : ∀ σ H Q, t σ H Q → t' σ H Q) : PE X e t := ⟨fun pins s σ H Q I hq => h.run pins s σ H Q I (m _ _ _ hq)⟩
theorem _root_.L2.PA.wk {e : List Expr} {t t' : TA} (h : PA X e t') (m : ∀ σ H Q, t σ H Q → t' σ H Q) : PA X e t := ⟨fun pos pins s σ H Q I hq => h.run pos pins s σ H Q I (m _ _ _ hq)⟩
/-- t[lo:hi] -/
def rSlD (K : PySem.W.Frag) : V → Option Int → Option Int → Hp → VK → Prop := fun x lo hi H Q => ∃ (P : Addr → Prop) (ts : List Tr) (n : Nat), DP K H P x (.tup ts) (n + 1) ∧ (∀ b, H b = none → P b) ∧
  ∀ v H', Same H H' → DP K H' P v (.tup (cutL ts lo hi)) (n + 1) → Q v H'
theorem sl_D : SlR X (rSlD X.K) := by
  intro pins s σ H x v vl vu lo hi sl Q I rx hs pl pu h
  obtain ⟨P, ts, n, d, free, k⟩ := h
  obtain ⟨a, xs, ts', m, rfl, et, lt, te, r⟩ := d.tupD rfl
  cases et
  have len := r.length
  refine sl_tupF pins s σ H _ v vl vu lo hi sl Q I rx hs pl pu ⟨a, xs, rfl, te.sq, fun hw => ?_, fun p o hp hd => ?_⟩
  · refine k _ H (Same.refl H) ?_
    have e : cutL ts lo hi = ts := by
      unfold cutL
      rw [← len, hw.1, hw.2, List.drop_zero, Nat.sub_zero, len, List.take_length]
    rw [e]
    exact d
  · refine k _ _ (same_upd hp) ?_
    have e : DPs X.K H P (cutV xs lo hi) (cutL ts lo hi) m := by
      unfold cutV cutL
      rw [← len]
      exact (r.drop _).take _
    exact (e.tup hp (free p hp) hd).lvl (by omega)
/-- t + u -/
def rCatD (K : PySem.W.Frag) : R2 := fun x y H Q => ∃ (P : Addr → Prop) (ts us : List Tr) (n : Nat), DP K H P x (.tup ts) (n + 1) ∧ DP K H P y (.tup us) (n + 1) ∧ ts.length + us.length ≤ sizeLine ∧ (∀ b, H b = none → P b) ∧
  ∀ v H', Same H H' → DP K H' P v (.tup (ts ++ us)) (n + 1) → Q v H'
theorem op_catD : OpR X (binaryOp .Add) (rCatD X.K) := by
  intro pins s σ H x y v u Q I rx ry h
  obtain ⟨P, ts, us, n, d1, d2, hz, free, k⟩ := h
  obtain ⟨a, xs, ts', m, rfl, et, lt, te, r⟩ := d1.tupD rfl
  cases et
  obtain ⟨b, ys, us', m2, rfl, et, lt2, te2, r2⟩ := d2.tupD rfl
  cases et
  have l1 := r.length
  have l2 := r2.length
  refine op_catF pins s σ H _ _ v u Q I rx ry ⟨a, b, xs, ys, rfl, rfl, te.sq, te2.sq, by omega, fun e => ?_, fun _ e => ?_, fun _ _ p o hp hd => ?_⟩
  · subst e
    have e : ts = [] := List.length_eq_zero_iff.mp l1.symm
    subst e
    exact k _ H (Same.refl H) d2
  · subst e
    have e : us = [] := List.length_eq_zero_iff.mp l2.symm
    subst e
    refine k _ H (Same.refl H) ?_
    rw [List.append_nil]
    exact d1
  · refine k _ _ (same_upd hp) ?_
    exact (((r.lvl (Nat.le_of_lt_succ lt)).append (r2.lvl (Nat.le_of_lt_succ lt2))).tup hp (free p hp) hd)
/-- t[::-1] -/
def tRevD (K : PySem.W.Frag) (te : TE) : TE := fun σ H Q => te σ H fun x H1 => ∃ (P : Addr → Prop) (ts : List Tr) (n : Nat), DP K H1 P x (.tup ts) (n + 1) ∧ (∀ b, H1 b = none → P b) ∧ ∀ v H', Same H1 H' → DP K H' P v (.tup ts.reverse) (n + 1) → Q v H'
theorem pe_revD {e : Expr} {te : TE} {k : Nat} {p1 p2 p3 pos : Pos} (he : PE X e te) : PE X (.Subscript e (.Slice none none (some (.UnaryOp .USub (.Constant (.int 1) k p1) p2)) p3) pos) (tRevD X.K te) := by
  refine ⟨fun pins s σ H Q I h => ?_⟩
  have he2 : PE X e (fun σ H Q => ∃ R : VK, te σ H R ∧ ∀ x H1, R x H1 → Q x H1) := ⟨fun pins s σ H Q I ⟨R, h1, h2⟩ => wpAny_mono (he.run pins s σ H R I h1) (fun u s' ⟨x, H', I', r', q⟩ => ⟨x, H', I', r', h2 x H' q⟩) fun _ _ e => e⟩
  refine (pe_revT (k := k) (p1 := p1) (p2 := p2) (p3 := p3) (pos := pos) he2).run pins s σ H Q I ⟨_, h, fun x H1 q => ?_⟩
  obtain ⟨P, ts, n, d, free, k⟩ := q
  obtain ⟨a, xs, ts', m, rfl, et, lt, tE, r⟩ := d.tupD rfl
  cases et
  exact ⟨a, xs, rfl, tE.sq, fun p o hp hd => k _ _ (same_upd hp) ((r.reverse.tup hp (free p hp) hd).lvl (by omega))⟩
/-- list(t) -/
theorem call_listD : CallR X (.type "list") (fun xs H Q => ∃ (P : Addr → Prop) (v : V) (ts : List Tr) (n : Nat), xs = [v] ∧ DP X.K H P v (.tup ts) (n + 1) ∧ (∀ b, H b = none → P b) ∧ ∀ v' H', Same H H' → DP X.K H' P v' (.lst ts) (n + 1) → Q v' H') := by
  intro pins s σ H xs us Q I r h
  obtain ⟨P, v, ts, n, rfl, d, free, k⟩ := h
  obtain ⟨a, xs, ts', m, rfl, et, lt, te, r2⟩ := d.tupD rfl
  cases et
  exact call_list_of pins s σ H _ us Q I r ⟨a, xs, rfl, .inr te.sq, fun p hp => k _ _ (same_upd hp) ((r2.lst hp (free p hp)).lvl (by omega))⟩
end
/-! written data: all that it lays is new -/
abbrev NewIn (H : Hp) : Addr → Prop := fun b => H b = none
def tDt (K : PySem.W.Frag) (t : Tr) (n : Nat) : TE := fun σ H Q => ∀ v H', Same H H' → DP K H' (NewIn H) v t n → Q v H'
def tDs (K : PySem.W.Frag) (ts : List Tr) (n : Nat) : TA := fun σ H Q => ∀ vs H', Same H H' → DPs K H' (NewIn H) vs ts n → Q vs H'
section
variable {X : Cx}
theorem pd_nil {n : Nat} : PA X [] (tDs X.K [] n) := pa_nil.wk fun σ H Q h => h [] H (Same.refl H) .nil
theorem pd_cons {e : Expr} {es : List Expr} {t : Tr} {ts : List Tr} {n : Nat} (ha : PE X e (tDt X.K t n)) (hr : PA X es (tDs X.K ts n)) (hs : starEach (e :: es) X.env = (false, eval e X.env) :: starEach es X.env := by rfl) : PA X (e :: es) (tDs X.K (t :: ts) n) :=
  (pa_cons ha hr hs).wk fun σ H Q h v H1 s1 d vs H2 s2 ds => h _ _ (s1.trans s2) (.cons (d.same s2) (ds.imp fun b e => s1.free e))
theorem pd_tup {es : List Expr} {ts : List Tr} {n : Nat} {pos : Pos} {x1} (h : PA X es (tDs X.K ts n)) (hz : ts.length ≤ 1000) : PE X (.Tuple es x1 pos) (tDt X.K (.tup ts) (n + 1)) :=
  (pe_tupF h).wk fun σ H Q k vs H1 s1 ds => ⟨by
    have : sizeLine > 1000 := by decide
    rw [ds.length]
    omega, fun p o hp hd => k _ _ (s1.trans (same_upd hp)) (ds.tup hp (s1.free hp) hd)⟩
theorem pd_lst {es : List Expr} {ts : List Tr} {n : Nat} {pos : Pos} (h : PA X es (tDs X.K ts n)) (hz : ts.length ≤ 1000) : PE X (.List es pos) (tDt X.K (.lst ts) (n + 1)) :=
  (pe_lst h).wk fun σ H Q k vs H1 s1 ds => ⟨by
    have : sizeLine > 1000 := by decide
    rw [ds.length]
    omega, fun p hp => k _ _ (s1.trans (same_upd hp)) (ds.lst hp (s1.free hp))⟩
theorem pd_dict {n : Nat} {pos : Pos} : PE X (.Dict [] [] pos) (tDt X.K (.dct [] []) (n + 1)) :=
  pe_dnewK.wk fun σ H Q k p hp => k _ _ (same_upd hp) (.emptyDict hp)
theorem pd_of {e : Expr} {v : V} {t : Tr} {n : Nat} (h : PE X e (tC v)) (d : ∀ H, DP X.K H (NewIn H) v t n) : PE X e (tDt X.K t n) := h.wk fun σ H Q k => k _ H (Same.refl H) (d H)
end
/-! t.index(x), of a tuple that was made here -/
section
variable {X : Cx} {o e : Expr} {es : List Expr} {to : TE} {t : TA} {apos cpos : Pos} {id : String} {r : V → List V → Hp → VK → Prop} {name : Str}
def tBMF (r : V → List V → Hp → VK → Prop) (to : TE) (t : TA) : TE := fun σ H Q => to σ H fun x H1 => (∃ (a : Addr) (ob : Obj) (xs : List V), x = .ref a ∧ H1 a = some (.frz ob (.tup xs)) ∧ ob.dict = none) ∧ t σ H1 fun xs H2 => r x xs H2 Q
theorem pe_bmF (pa : PlainAttrs "tuple") (slot : Slot "tuple" name id) (hty : typeOf (.builtin id) = pure (.type "method_descriptor")) (hm : MtR X id r) (ho : PE X o to) (ha : PA X (e :: es) t)
    (hbase : attributeBase o name X.env (eval o X.env) = eval o X.env := by rfl)
    (hfew : ((backTo cpos (starEach (e :: es) X.env)).all (fun x => !x.1) && (backToKw cpos (keywordEach [] X.env)).all (fun x => x.1.isSome)
      && decide ((e :: es).length + ([] : List Keyword).length + (if ([] : List Keyword).isEmpty then 0 else 1) < 30)) = true := by rfl)
    (hline : (apos.endLine == cpos.line) = true := by rfl) (hs : starEach (e :: es) X.env = (false, eval e X.env) :: starEach es X.env := by rfl) (hplain : (backTo cpos (starEach es X.env)).any (·.1) = false := by rfl) :
    PE X (.Call (.Attribute o name apos) (e :: es) [] cpos) (tBMF r to t) := by
  refine ⟨fun pins s σ H Q I h => ?_⟩
  refine wpAny_Call_method_late hbase hfew hline rfl (thn (ho.run pins s σ H _ I h) fun v s1 ⟨x, H1, I1, r1, ⟨a, ob, xs, ex, ha1, hd⟩, q1⟩ => ?_)
  subst ex
  cases r1
  obtain ⟨h1, _, its, _, o2, h2, hc, _⟩ := I1.hok _ _ ha1
  have e2 : o2 = ob := Option.some.inj (h2.symm.trans h1)
  subst e2
  refine ⟨"tuple", id, pa, slot, hty, ⟨_, h1, hc⟩, fun a' e' => ?_, ?_⟩
  · cases e'
    exact ⟨_, h1, hd⟩
  have hA := ha.run cpos pins s1 σ H1 _ I1 q1
  rw [hs] at hA ⊢
  refine Calls.callWith_builtin (by show (false || (backTo cpos (starEach es X.env)).any (·.1)) = false; rw [hplain] <;> rfl) (Calls.evalArgs_plain ?_)
  exact thn hA fun us s2 ⟨vs, H2, I2, r2, q2⟩ => hm pins s2 σ H2 (.ref a) vs (.ref a) us Q I2 rfl r2 q2
end
end Vm
namespace Vm
open PySem L2
abbrev sOther : Stmt := top 18
theorem farOk {i : Int} (h : i.natAbs < 10 ^ 40) : i.natAbs.log2 < 1920 ∧ (Str.ofString (toString i)).length ≤ 100 := by
  refine ⟨?_, ?_⟩
  · by_cases h0 : i.natAbs = 0
    · rw [h0]
      decide
    · exact (Nat.log2_lt h0).mpr (Nat.lt_of_lt_of_le h (by decide +kernel))
  · rw [ofString_length]
    have e := int_text_length_le10 (k := 40) (by decide) h
    omega
section
variable {X : Cx}
theorem op_mulS : OpR X (binaryOp .Mult) (fun x y H Q => ∃ (z : Str) (i : Int), x = .str z ∧ y = .int i ∧ z.length ≤ 16 ∧ 0 ≤ i ∧ i ≤ 1000 ∧ Q (.str (Txt.mul z i)) H) := by
  intro pins s σ H x y v u Q I rx ry h
  obtain ⟨z, i, rfl, rfl, h1, h2, h3, q⟩ := h
  obtain ⟨t, rfl⟩ := rx
  obtain ⟨t', rfl⟩ := ry
  exact PySem.SB.mul (PyProof.Rows.mulOk_of 16 1048576 (by omega) (by omega) (by omega) (by decide) (by decide)) fun t' k => ⟨.str (Txt.mul z i), H, I.tok _, ⟨t', rfl⟩, q⟩
end
def longA : Str := Txt.mul (Str.ofString "a") 300
theorem longA_ok : (reprText longA).length ≤ 302 ∧ longA.length ≤ 302 := by decide +kernel
/-- the values of the second list -/
def others : List Tr := [.tup [], .lst [], .dct [] [], .tup [.str "a"], .lst [.str "a"], .tup [.str "a", .str "b", .str "c"], .tup [.tup []], .str longA]
theorem others_w : ∀ t ∈ others, t.w ≤ 310 := by
  intro t h
  unfold others at h
  simp only [List.mem_cons, List.not_mem_nil, or_false] at h
  rcases h with e | e | e | e | e | e | e | e <;> subst e
  · decide +kernel
  · decide +kernel
  · decide +kernel
  · decide +kernel
  · decide +kernel
  · decide +kernel
  · decide +kernel
  · exact Nat.le_trans longA_ok.1 (by decide)
/-- a value that is no name, or none of its place -/
def spOther (K : PySem.W.Frag) : Sp := fun vs H Q _ => ∃ (s l : Addr) (ms : List Int) (z b : Int), vs = [.ref s] ∧ Src H s l ms z b ∧ 0 ≤ b ∧ b < 900000 ∧
  ∀ (H' : Hp) (ms' : List Int) (v : V) (t : Tr), But s l H H' → Src H' s l ms' z (b + 2) → DP K H' (NewIn H) v t 2 → t.w ≤ 310 → Q v H'
section
variable {P : Program} {w : World} {K : PySem.W.Frag} {mg : Str → Option Value} {base : Heap} {fD fP : Addr}
theorem scOther : FnScope ["_law_source_here", "_law_far", "_law_some"] ["_law_source_here"] (defScope sOther) := ⟨rfl, rfl, rfl, by decide +kernel, rfl, by decide +kernel, by decide +kernel⟩
theorem ok_other {f : Addr} {fd fdD fdP : FuncData} (F : Fun K "_law_other" "_law_other" sOther f fd) (T : TxtL K mg fD fP) (GD : FnOk P w K mg base CX0 1 fD fdD ["_law_source_here", "_law_many"] spDraw) (bD : Binds K fdD ["_law_source_here", "_law_many"] [])
    (GP : FnOk P w K mg base CX0 2 fP fdP ["_law_source_here", "_law_items"] (spPick K)) (bP : Binds K fdP ["_law_source_here", "_law_items"] []) : FnOk P w K mg base CX0 3 f fd ["_law_source_here"] (spOther K) := by
  refine F.ok scOther (fun vs H Q E h => ?_) (fun cdv A outer s H vs Q E hr h => ?_)
  · obtain ⟨s, l, ms, z, b, rfl, _⟩ := h
    rfl
  · obtain ⟨a, l, ms, z, b, rfl, hs, b0, b1, k⟩ := h
    have hr1 : Room 1 _ := hr.mono (by decide)
    have sa : ∀ {X : Cx}, ∀ {z : Str} {k : Nat} {p : Pos}, (reprText z).length ≤ 302 → z.length ≤ 302 → PE X (.Constant (.str z) k p) (tDt X.K (.str z) 0) := fun h1 h2 => pd_of pe_str fun H => .str (Nat.le_trans h1 (by decide)) (Nat.le_trans h2 (by decide))
    have sa1 : ∀ {X : Cx}, ∀ {z : Str} {k : Nat} {p : Pos}, (reprText z).length ≤ 302 → z.length ≤ 302 → PE X (.Constant (.str z) k p) (tDt X.K (.str z) 1) := fun h1 h2 => pd_of pe_str fun H => .str (Nat.le_trans h1 (by decide)) (Nat.le_trans h2 (by decide))
    refine ⟨_, pss_cons (ps_set (i := 1) scOther.nd rfl (Or.inl rfl) (pe_op op_add (pe_op op_pow pe_int pe_int) (pe_call GD hr1 rfl T.gD T.kD bD .nil pass0 (pa_cons (pv 0) (pa_cons pe_int pa_nil)))))
      (pss_cons (ps_set (i := 2) scOther.nd rfl (Or.inl rfl) (pe_lst (pa_cons pe_non (pa_cons pe_bl (pa_cons pe_bl (pa_cons pe_int (pa_cons pe_int (pa_cons (pv 1)
        (pa_cons pe_str (pa_cons pe_str (pa_cons pe_str (pa_cons pe_str (pa_cons pe_str (pa_cons pe_str (pa_cons pe_str (pa_cons pe_str (pa_cons pe_str (pa_cons pe_str (pa_cons pe_str pa_nil)))))))))))))))))))
      (pss_one (ps_ret (pe_call GP hr rfl T.gP T.kP bP .nil pass0 (pa_cons (pv 0) (pa_cons (pe_op op_cat (pv 2)
        (pe_lst (pd_cons (n := 2) (ts := others.drop 1) (pd_tup pd_nil (by decide)) (pd_cons (pd_lst pd_nil (by decide)) (pd_cons pd_dict
          (pd_cons (pd_tup (n := 1) (pd_cons (sa1 (by decide +kernel) (by decide +kernel)) pd_nil) (by decide)) (pd_cons (pd_lst (n := 1) (pd_cons (sa1 (by decide +kernel) (by decide +kernel)) pd_nil) (by decide))
          (pd_cons (pd_tup (n := 1) (pd_cons (sa1 (by decide +kernel) (by decide +kernel)) (pd_cons (sa1 (by decide +kernel) (by decide +kernel)) (pd_cons (sa1 (by decide +kernel) (by decide +kernel)) pd_nil))) (by decide))
          (pd_cons (pd_tup (n := 1) (pd_cons (pd_tup (n := 0) pd_nil (by decide)) pd_nil) (by decide)) (pd_cons (by exact (PE.wk (pe_op op_mulS pe_str pe_int) fun σ H Q h => ⟨_, _, rfl, rfl, by decide +kernel, by decide, by decide, h _ H (Same.refl H) (.str (Nat.le_trans longA_ok.1 (by decide)) (Nat.le_trans longA_ok.2 (by decide)))⟩)) pd_nil)))))))))) pa_nil)))))), ?_⟩
    refine ⟨_, _, rfl, rfl, ⟨by decide, by decide, by decide⟩, _, rfl, a, l, ms, z, b, 1000, rfl, hs, by decide, by decide, b0, by omega, fun H1 ms1 r1 k1 hs1 p1 q1 => ?_⟩
    refine ⟨_, _, rfl, rfl, ?_⟩
    have e39 : (10 : Int) ^ (39 : Int).toNat = 10 ^ 39 := rfl
    have far0 : 0 ≤ (10 : Int) ^ (39 : Int).toNat + r1 := by
      rw [e39]
      omega
    have far1 : (10 : Int) ^ (39 : Int).toNat + r1 < 10 ^ 40 := by
      rw [e39]
      omega
    have big : sizeLine > 1000 := by decide
    refine ⟨_, rfl, by show 17 ≤ sizeLine; omega, fun p hp => ?_⟩
    generalize hX : [V.non, V.bl true, V.bl false, V.int 0, V.int 1, (fun i j => V.int (i + j)) ((10 : Int) ^ (39 : Int).toNat) r1, V.str (Str.ofString ""), V.str (Str.ofString "A"), V.str (Str.ofString "a1"), V.str (Str.ofString "a b"), V.str (Str.ofString "abcdefghi"),
          V.str (Str.ofString "a,"), V.str (Str.ofString "-"), V.str (Str.ofString "aA"), V.str (Str.ofString "\n"), V.str (Str.ofString "{"), V.str (Str.ofString "a.b")] = xs
    have hlen : xs.length = 17 := by rw [← hX]; rfl
    obtain ⟨pa, pl⟩ := hs1.free hp
    have hpH := k1.back hs1 hp
    have sp := same_upd (o := .lst xs) hp
    refine ⟨_, rfl, _, rfl, fun vs H2 s2 ds => ⟨by rw [ds.length]; show 8 ≤ sizeLine; omega, fun q hq => ?_⟩⟩
    have pq : p ≠ q := fun e => by
      rw [← e, s2 _ _ upd_same] at hq
      cases hq
    have lv : vs.length = 8 := ds.length
    refine ⟨p, q, xs, vs, rfl, rfl, by rw [upd_ne pq]; exact s2 _ _ upd_same, upd_same, by omega, fun r hr' => ?_⟩
    have s3 : Same H1 (upd (upd H2 q (.lst vs)) r (.lst (xs ++ vs))) := ((sp.trans s2).trans (same_upd hq)).trans (same_upd hr')
    have k3 := k1.trans (But.of_same (s := a) (l := l) s3)
    have hs3 := hs1.but s3
    obtain ⟨ra, rl⟩ := (hs1.but ((sp.trans s2).trans (same_upd hq))).free hr'
    have new1 : ∀ b, upd H1 p (.lst xs) b = none → H b = none := fun b e => k1.back hs1 (sp.free e)
    have ds3 : DPs K (upd (upd H2 q (.lst vs)) r (.lst (xs ++ vs))) (NewIn H) vs others 2 := (ds.imp new1).same ((same_upd hq).trans (same_upd hr'))
    have er : upd (upd H2 q (.lst vs)) r (.lst (xs ++ vs)) r = some (.lst (xs ++ vs)) := upd_same
    refine ?_
    show spPick K [.ref a, .ref r] (upd (upd H2 q (.lst vs)) r (.lst (xs ++ vs))) Q E0
    generalize upd (upd H2 q (.lst vs)) r (.lst (xs ++ vs)) = H3 at k3 hs3 ds3 er ⊢
    refine ⟨a, l, .ref r, ms1, z, b + 1, rfl, hs3, by omega, by omega, .inl ⟨r, xs ++ vs, rfl, fun H' k' => SqL.of (k' _ _ ra rl er), by rw [List.length_append]; omega, by rw [List.length_append]; omega, fun H4 ms4 y k4 hs4 hy => ?_⟩⟩
    have k34 := k3.trans k4
    have fin : ∀ (t : Tr), DP K H4 (NewIn H) y t 2 → t.w ≤ 310 → Q y H4 := fun t hd hx => k H4 ms4 y t k34 (by rw [show b + 2 = b + 1 + 1 by omega]; exact hs4) hd hx
    have fi : ∀ i : Int, y = .int i → i.natAbs < 10 ^ 40 → Q y H4 := fun i e hi => by
      subst e
      exact fin (.int i) (.int (farOk hi).1) (Nat.le_trans (farOk hi).2 (by decide))
    have fs : ∀ z : Str, y = .str z → (reprText z).length ≤ 300 → z.length ≤ 300 → Q y H4 := fun z e hz h2 => by
      subst e
      exact fin (.str z) (.str (Nat.le_trans hz (by decide)) (Nat.le_trans h2 (by decide))) (Nat.le_trans hz (by decide))
    rcases List.mem_append.mp hy with hy | hy
    · rw [← hX] at hy
      simp only [List.mem_cons, List.not_mem_nil, or_false] at hy
      rcases hy with e | e | e | e | e | e | e | e | e | e | e | e | e | e | e | e | e
      · subst e
        exact fin _ .non (by decide)
      · subst e
        exact fin _ (.bl true) (by decide)
      · subst e
        exact fin _ (.bl false) (by decide)
      · exact fi _ e (by decide)
      · exact fi _ e (by decide)
      · exact fi _ e (by omega)
      · exact fs _ e (by decide +kernel) (by decide +kernel)
      · exact fs _ e (by decide +kernel) (by decide +kernel)
      · exact fs _ e (by decide +kernel) (by decide +kernel)
      · exact fs _ e (by decide +kernel) (by decide +kernel)
      · exact fs _ e (by decide +kernel) (by decide +kernel)
      · exact fs _ e (by decide +kernel) (by decide +kernel)
      · exact fs _ e (by decide +kernel) (by decide +kernel)
      · exact fs _ e (by decide +kernel) (by decide +kernel)
      · exact fs _ e (by decide +kernel) (by decide +kernel)
      · exact fs _ e (by decide +kernel) (by decide +kernel)
      · exact fs _ e (by decide +kernel) (by decide +kernel)
    · obtain ⟨t, ht, d⟩ := DP.mem ds3 hy
      obtain ⟨bs, dd, pp⟩ := d
      refine fin t ⟨bs, dd.keep fun c hc o e => ?_, pp⟩ (others_w t ht)
      obtain ⟨n1, n2⟩ := hs.free (pp c hc)
      exact k4 c o n1 n2 e
end
end Vm
namespace Vm
open PySem L2
abbrev sLKey : Stmt := top 21
/-- a tuple of texts that was made here -/
def TupS (H : Hp) (c : Addr) (ss : List Str) : Prop := ∃ ob : Obj, H c = some (.frz ob (.tup (ss.map V.str))) ∧ ob.dict = none
theorem TupS.same {H H' : Hp} {c : Addr} {ss : List Str} (k : Same H H') (h : TupS H c ss) : TupS H' c ss := let ⟨o, h, d⟩ := h; ⟨o, k _ _ h, d⟩
theorem TupS.sq {K : PySem.W.Frag} {H : Hp} {c : Addr} {ss : List Str} (h : TupS H c ss) : SqT K H c (ss.map V.str) := let ⟨o, h, _⟩ := h; .inl (.inr ⟨o, h⟩)
def spLKey (K : PySem.W.Frag) : Sp := fun vs H Q _ => ∃ (v : V) (t : Tr) (n : Nat) (bs : List Addr) (c : Addr) (ss : List Str), vs = [v, .ref c] ∧ Dt K H v t n bs ∧ TupS H c ss ∧ ss.length ≤ 1000 ∧ ss.Nodup ∧ ∀ H', Same H H' → Q (.bl (isKey t ss)) H'
theorem idx_first {ss : List Str} {x : Str} (h : x ∈ ss) : ss[ss.idxOf x]? = some x ∧ ∀ m, m < ss.idxOf x → ss[m]? ≠ some x := by
  have lt := List.idxOf_lt_length_of_mem h
  refine ⟨by rw [List.getElem?_eq_getElem lt, List.getElem_idxOf lt], fun m hm e => ?_⟩
  have := List.not_of_lt_findIdx (p := (· == x)) (xs := ss) (i := m) hm
  rw [List.getElem?_eq_getElem (Nat.lt_trans hm lt)] at e
  have e2 := Option.some.inj e
  have e3 : (ss[m] == x) = true := beq_iff_eq.mpr e2
  rw [this] at e3
  cases e3
section
variable {P : Program} {w : World} {K : PySem.W.Frag} {mg : Str → Option Value} {base : Heap} {fNm fNms : Addr}
theorem scLKey : FnScope ["_law_picked", "_law_columns", "_law_at", "_law_item"] ["_law_picked", "_law_columns"] (defScope sLKey) := ⟨rfl, rfl, rfl, by decide +kernel, rfl, by decide +kernel, by decide +kernel⟩
theorem ok_lkey {f : Addr} {fd : FuncData} (F : Fun K "_law_key_right" "_law_key_right" sLKey f fd) (T : TxtP K mg fNm fNms) : FnOk P w K mg base CX0 1 f fd ["_law_picked", "_law_columns"] (spLKey K) := by
  refine F.ok scLKey (fun vs H Q E h => ?_) (fun cdv A outer s H vs Q E hr h => ?_)
  · obtain ⟨v, t, n, bs, c, ss, rfl, _⟩ := h
    rfl
  · obtain ⟨v, t, n, bs, c, ss, rfl, d, hS, few, nd, k⟩ := h
    refine ⟨_, pss_cons (ps_if (pt_not (pt_val (pe_callB call_isi (by rfl) T.isi (by decide +kernel) (pa_cons (pv 0) (pa_cons (pe_bltn (v := .ty "tuple") (by rfl) T.tuple (by decide +kernel) rfl) pa_nil)))))
        (pss_one (ps_ret pe_bl)) pss_nil)
      (pss_cons (ps_set (i := 2) scLKey.nd rfl (Or.inl rfl) (pe_un un_neg pe_int))
      (pss_cons (ps_for PassesOwn.never rfl (pi_tup (pv 0)) (pg_name (i := 3) scLKey.nd rfl (Or.inl rfl))
        (pss_cons (ps_if (PW.pt (pw_or (pt_not (pt_val (pe_callB call_isi (by rfl) T.isi (by decide +kernel) (pa_cons (pv 3) (pa_cons (pe_bltn (v := .ty "str") (by rfl) T.str (by decide +kernel) rfl) pa_nil)))))
            (pw_or (pt_cmpR op_notIn_seq (pv 3) (pv 1) (by rfl))
              (pw_or1 (pt_cmpR op_le (pe_bmF PySem.F.plainAttrs_tuple PySem.F.slot_tuple_index PySem.F.type_tuple_index mt_tup_index (pv 1) (pa_cons (pv 3) pa_nil)) (pv 2) (nomark _))))))
            (pss_one (ps_ret pe_bl)) pss_nil)
        (pss_one (ps_set (i := 2) scLKey.nd rfl (Or.inl rfl) (pe_bmF PySem.F.plainAttrs_tuple PySem.F.slot_tuple_index PySem.F.type_tuple_index mt_tup_index (pv 1) (pa_cons (pv 3) pa_nil))))))
      (pss_one (ps_ret pe_bl)))), ?_⟩
    have no : ∀ H', Same H H' → isKey t ss = false → Q (.bl false) H' := fun H' s' z => by
      rw [← z]
      exact k H' s'
    refine ⟨_, rfl, v, _, _, _, isTup t, rfl, .ty _, d.ty, kit_tup t, _, rfl, ?_⟩
    cases ht : isTup t with
    | false =>
      refine iteT (no H (Same.refl H) ?_)
      cases t <;> first | rfl | (cases ht; done)
    | true =>
      obtain ⟨b, xs, ts, m, cs, rfl, rfl, _, hb, r, _⟩ := d.tupOf ht
      have hl := r.length
      have key : isKey (.tup ts) ss = walkKey ss 0 ts := by
        show sameS ts (ss.filter fun z => ts.any (isS z)) = _
        rw [← sub_key ss nd ts]
        exact (walk_sub ts [] ss nd).symm
      refine iteF ?_
      refine ⟨_, rfl, _, rfl, b, rfl, ⟨_, hb⟩, for_tup (K := K) (a := b) (xs := xs) (fun i σ H' => ∃ (q : Nat) (v3 : Option V), σ = [some (.ref b), some (.ref c), some (.int ((q : Int) - 1)), v3] ∧ Same H H' ∧ walkKey ss 0 ts = walkKey ss q (ts.drop i)) ⟨0, none, rfl, Same.refl H, rfl⟩
        (fun i σ H' _ ⟨_, _, _, s', _⟩ => sameT s' hb) ?_ ?_⟩
      · rintro i y σ H2 hi ⟨q, v3, rfl, s2, e2⟩
        obtain ⟨t, ct, et, dt, _⟩ := r.get hi
        have hS2 := hS.same s2
        obtain ⟨ob, hob, hod⟩ := hS2
        have it : i < ts.length := (List.getElem?_eq_some_iff.mp et).1
        have dr : ts.drop i = t :: ts.drop (i + 1) := by
          rw [List.drop_eq_getElem_cons it]
          congr 1
          rw [List.getElem?_eq_getElem it] at et
          exact Option.some.inj et
        have bad : walkKey ss q (ts.drop i) = false → Q (.bl false) H2 := fun z => no H2 s2 (by rw [key, e2, z])
        refine ⟨_, rfl, y, _, _, _, isStr t, rfl, .ty _, (dt.same s2).ty, kit_str t, _, rfl, ?_⟩
        cases hst : isStr t with
        | false =>
          refine iteT (iteT (bad ?_))
          rw [dr]
          cases t <;> first | rfl | (cases hst; done)
        | true =>
          cases dt with
          | @str _ x _ _ =>
            refine iteF ?_
            refine ⟨_, rfl, _, rfl, c, ss.map V.str, rfl, .inr (TupS.sq ⟨ob, hob, hod⟩), rfl, flat_strs ss, _, rfl, ?_⟩
            have e3 : inV (.str x) (ss.map V.str) = ss.any (· == x) := inV_str x ss
            rw [e3]
            cases hin : ss.any (· == x) with
            | false =>
              refine iteT (iteT (bad ?_))
              rw [dr]
              show (if x ∈ ss ∧ q ≤ ss.idxOf x then _ else false) = false
              rw [if_neg]
              rintro ⟨h1, _⟩
              have : ss.any (· == x) = true := List.any_eq_true.mpr ⟨x, h1, beq_self_eq_true x⟩
              rw [hin] at this
              cases this
            | true =>
              refine iteF ?_
              have mem : x ∈ ss := by
                obtain ⟨z, hz, e⟩ := List.any_eq_true.mp hin
                rw [← beq_iff_eq.mp e]
                exact hz
              obtain ⟨f1, f2⟩ := idx_first mem
              refine ⟨_, rfl, ⟨c, ob, _, rfl, hob, hod⟩, _, rfl, c, ss, x, ss.idxOf x, rfl, rfl, TupS.sq ⟨ob, hob, hod⟩, f1, f2, ?_⟩
              refine ⟨_, rfl, _, _, rfl, rfl, _, rfl, ?_⟩
              refine ite_ (fun c1 => ?_) (fun c1 => ?_)
              · refine bad ?_
                rw [dr]
                show (if x ∈ ss ∧ q ≤ ss.idxOf x then _ else false) = false
                rw [if_neg]
                rintro ⟨_, h2⟩
                omega
              · refine ⟨_, rfl, ⟨c, ob, _, rfl, hob, hod⟩, _, rfl, c, ss, x, ss.idxOf x, rfl, rfl, TupS.sq ⟨ob, hob, hod⟩, f1, f2, ?_⟩
                refine ⟨ss.idxOf x + 1, some (.str x), ?_, s2, ?_⟩
                · rw [show (((ss.idxOf x + 1 : Nat) : Int) - 1) = (ss.idxOf x : Nat) by omega]
                  rfl
                · rw [e2, dr]
                  show (if x ∈ ss ∧ q ≤ ss.idxOf x then _ else false) = _
                  rw [if_pos ⟨mem, by omega⟩]
          | _ => cases hst
      · rintro σ H2 ⟨q, v3, rfl, s2, e2⟩
        show Q (.bl true) H2
        have z : isKey (.tup ts) ss = true := by
          rw [key, e2, hl, List.drop_length]
          rfl
        rw [← z]
        exact k H2 s2
end
end Vm
namespace Vm
open PySem L2
abbrev sRight : Stmt := top 22
theorem TupE.ts {K : PySem.W.Frag} {H : Hp} {c : Addr} {ss : List Str} (h : TupE K H c (ss.map V.str)) (ne : 0 < ss.length) : TupS H c ss := by
  rcases h with ⟨e, _⟩ | h
  · have := congrArg List.length e
    rw [List.length_map] at this
    rw [this] at ne
    exact absurd ne (by decide)
  · exact h
def spRight (K : PySem.W.Frag) : Sp := fun vs H Q _ => ∃ (v1 v2 v3 v4 : V) (t1 t2 t3 t4 : Tr) (n1 n2 n3 n4 : Nat) (b1 b2 b3 b4 : List Addr), vs = [v1, v2, v3, v4] ∧
  Dt K H v1 t1 n1 b1 ∧ Dt K H v2 t2 n2 b2 ∧ Dt K H v3 t3 n3 b3 ∧ Dt K H v4 t4 n4 b4 ∧ ∀ H', Same H H' → Q (.bl (valid t1 t2 t3 t4)) H'
structure TxtR (K : PySem.W.Frag) (mg : Str → Option Value) (fLN fLNs fLK : Addr) : Prop where
  gN : mg "_law_is_name" = some (.ref fLN)
  kN : PySem.W.keepIn K (.ref fLN) = true
  gNs : mg "_law_are_names" = some (.ref fLNs)
  kNs : PySem.W.keepIn K (.ref fLNs) = true
  gK : mg "_law_key_right" = some (.ref fLK)
  kK : PySem.W.keepIn K (.ref fLK) = true
section
variable {P : Program} {w : World} {K : PySem.W.Frag} {mg : Str → Option Value} {base : Heap} {fNm fNms fLN fLNs fLK : Addr}
theorem scRight : FnScope ["_law_title", "_law_labels", "_law_figures", "_law_picked", "_law_columns"] ["_law_title", "_law_labels", "_law_figures", "_law_picked"] (defScope sRight) := ⟨rfl, rfl, rfl, by decide +kernel, rfl, by decide +kernel, by decide +kernel⟩
theorem ok_right {f : Addr} {fd fdN fdNs fdK : FuncData} (F : Fun K "_law_right" "_law_right" sRight f fd) (T : TxtP K mg fNm fNms) (U : TxtR K mg fLN fLNs fLK) (GN : FnOk P w K mg base CX0 1 fLN fdN ["_law_it"] (spTest K isNm)) (bN : Binds K fdN ["_law_it"] [])
    (GNs : FnOk P w K mg base CX0 2 fLNs fdNs ["_law_it"] (spTest K areNms)) (bNs : Binds K fdNs ["_law_it"] []) (GK : FnOk P w K mg base CX0 1 fLK fdK ["_law_picked", "_law_columns"] (spLKey K)) (bK : Binds K fdK ["_law_picked", "_law_columns"] []) :
    FnOk P w K mg base CX0 3 f fd ["_law_title", "_law_labels", "_law_figures", "_law_picked"] (spRight K) := by
  refine F.ok scRight (fun vs H Q E h => ?_) (fun cdv A outer s H vs Q E hr h => ?_)
  · obtain ⟨v1, v2, v3, v4, t1, t2, t3, t4, n1, n2, n3, n4, b1, b2, b3, b4, rfl, _⟩ := h
    rfl
  · obtain ⟨v1, v2, v3, v4, t1, t2, t3, t4, n1, n2, n3, n4, b1, b2, b3, b4, rfl, d1, d2, d3, d4, k⟩ := h
    have hr1 : Room 1 _ := hr.mono (by decide)
    have hu : (A.deeper (PyProof.Rows.envOfC "_law_right" (defScope sRight) s.heap.objs.size f cdv)).units + 1 < cLine := by
      have := hr.units
      omega
    refine ⟨_, pss_cons (ps_if (PW.pt (pw_or (pt_not (pt_val (pe_call GN hr1 rfl U.gN U.kN bN .nil pass0 (pa_cons (pv 0) pa_nil))))
          (pw_or (pt_not (pt_val (pe_call GNs hr rfl U.gNs U.kNs bNs .nil pass0 (pa_cons (pv 1) pa_nil))))
          (pw_or1 (pt_not (pt_val (pe_call GNs hr rfl U.gNs U.kNs bNs .nil pass0 (pa_cons (pv 2) pa_nil))))))))
        (pss_one (ps_ret pe_bl)) pss_nil)
      (pss_cons (ps_set (i := 4) scRight.nd rfl (Or.inl rfl) (pe_op op_catE (pv 1) (pv 2)))
      (pss_cons (ps_if (PW.pt (pw_or (pt_cmpR (op_eqSS hu) (pv 4) (pe_tupF pa_nil) (nomark _)) (pw_or1 (pt_cmpR op_ne (pe_many rfl rfl T.len rfl T.set (pv 4)) (pe_callB call_len_seq (by rfl) T.len (by decide +kernel) (pa_cons (pv 4) pa_nil)) (nomark _)))))
        (pss_one (ps_ret pe_bl)) pss_nil)
      (pss_one (ps_ret (pe_call GK hr1 rfl U.gK U.kK bK .nil pass0 (pa_cons (pv 3) (pa_cons (pv 4) pa_nil))))))), ?_⟩
    have no : ∀ H', Same H H' → valid t1 t2 t3 t4 = false → Q (.bl false) H' := fun H' s' z => by
      rw [← z]
      exact k H' s'
    refine ⟨_, rfl, v1, t1, n1, b1, rfl, d1, fun H1 s1 => ⟨isNm t1, rfl, ?_⟩⟩
    cases e1 : isNm t1 with
    | false =>
      refine iteT (iteT (no H1 s1 ?_))
      unfold valid
      rw [e1, Bool.false_and]
    | true =>
      refine iteF ?_
      refine ⟨_, rfl, v2, t2, n2, b2, rfl, d2.same s1, fun H2 s2 => ⟨areNms t2, rfl, ?_⟩⟩
      have s12 := s1.trans s2
      cases e2 : areNms t2 with
      | false =>
        refine iteT (iteT (no H2 s12 ?_))
        unfold valid areCols
        rw [e2, Bool.false_and, Bool.false_and, Bool.and_false]
      | true =>
        refine iteF ?_
        refine ⟨_, rfl, v3, t3, n3, b3, rfl, d3.same s12, fun H3 s3 => ⟨areNms t3, rfl, ?_⟩⟩
        have s13 := s12.trans s3
        cases e3 : areNms t3 with
        | false =>
          refine iteT (no H3 s13 ?_)
          unfold valid areCols
          rw [e3, Bool.false_and, Bool.and_false, Bool.false_and, Bool.and_false]
        | true =>
          refine iteF ?_
          obtain ⟨a, ss, rfl, rfl, ha, la, _⟩ := d2.names e2
          obtain ⟨b, zs, rfl, rfl, hb, lb, _⟩ := d3.names e3
          have val : valid t1 (.tup (ss.map Tr.str)) (.tup (zs.map Tr.str)) t4 = (colsOk (ss ++ zs) && isKey t4 (ss ++ zs)) := by
            unfold valid areCols
            rw [e1, e2, e3, Bool.true_and, Bool.true_and, Bool.true_and, strsOf_map, strsOf_map]
          rw [val] at k no
          have big : sizeLine > 8 := by decide
          refine ⟨_, rfl, _, rfl, a, b, _, _, rfl, rfl, ha.same s13, hb.same s13, by rw [List.length_map, List.length_map]; omega, fun q H4 s4 hq _ => ?_⟩
          rw [← List.map_append] at hq
          have s14 := s13.trans s4
          have few : (ss ++ zs).length ≤ 4 := by
            rw [List.length_append]
            omega
          refine ⟨_, rfl, Nat.zero_le _, fun p o hp ho => ?_⟩
          have s5 : Same H4 (upd H4 p (.frz o (.tup []))) := same_upd hp
          have s15 := s14.trans s5
          have hq5 := hq.same s5
          refine ⟨q, p, ss ++ zs, [], rfl, rfl, hq5.sq, .inl (.inr ⟨o, upd_same⟩), ?_⟩
          generalize upd H4 p (.frz o (.tup [])) = H5 at s5 s15 hq5 ⊢
          refine ⟨_, rfl, ?_⟩
          refine ite_ (fun c => ?_) (fun c => ?_)
          · refine iteT (no H5 s15 ?_)
            rw [c]
            rfl
          · have ne : 0 < (ss ++ zs).length := by
              cases e : ss ++ zs with
              | nil => exact absurd e c
              | cons _ _ => exact Nat.succ_pos _
            refine ⟨_, rfl, q, ss ++ zs, rfl, hq5.sq, by omega, _, rfl, q, _, rfl, .inr hq5.sq, rfl, _, rfl, ?_⟩
            rw [List.length_map]
            have m := many_all (xs := ss ++ zs) (Nat.le_refl _)
            rw [List.take_length] at m
            have z2 : (!decide (V.int (many (ss ++ zs) (ss ++ zs).length : Nat) = V.int ((ss ++ zs).length : Nat))) = !decide (ss ++ zs).Nodup := by
              congr 1
              by_cases nd : (ss ++ zs).Nodup
              · rw [decide_eq_true nd, m.mpr nd]
                exact decide_eq_true rfl
              · rw [decide_eq_false nd]
                refine decide_eq_false fun y => nd (m.mp ?_)
                have := V.int.inj y
                omega
            rw [z2]
            by_cases nd : (ss ++ zs).Nodup
            · rw [decide_eq_true nd]
              refine iteF ?_
              have cok : colsOk (ss ++ zs) = true := by
                unfold colsOk
                rw [decide_eq_true ne, decide_eq_true nd]
                rfl
              rw [cok, Bool.true_and] at k
              refine ⟨_, rfl, _, rfl, v4, t4, n4, b4, q, ss ++ zs, rfl, d4.same s15, hq5.ts ne, by omega, nd, fun H6 s6 => k H6 (s15.trans s6)⟩
            · rw [decide_eq_false nd]
              refine iteT (no H5 s15 ?_)
              unfold colsOk
              rw [decide_eq_false nd, Bool.and_false, Bool.false_and]
end
end Vm
namespace Vm
open PySem L2
abbrev sValid : Stmt := top 23
def fourC : List Str := ["one", "two", "three", "four"]
theorem fourC_nm : fourC.all nmS = true := by decide +kernel
theorem sub_len {α : Type} [BEq α] [LawfulBEq α] : ∀ {a b : List α}, a.Nodup → (∀ x ∈ a, x ∈ b) → a.length ≤ b.length
  | [], _, _, _ => Nat.zero_le _
  | x :: r, b, nd, h => by
    have hx := h x List.mem_cons_self
    have nx := (List.nodup_cons.mp nd).1
    have ih := sub_len (a := r) (b := b.erase x) (List.nodup_cons.mp nd).2 fun y hy => (List.mem_erase_of_ne (by
      intro e
      subst e
      exact nx hy)).mpr (h y (List.mem_cons_of_mem _ hy))
    have e := List.length_erase_of_mem hx
    have p := List.length_pos_of_mem hx
    rw [List.length_cons]
    omega
/-- the words that are no column yet -/
def fresh (cs : List Str) (ws : List Str) : List Str := ws.filter fun z => !cs.any (· == z)
theorem fresh_ne {cs : List Str} (x : Str) (h : cs.length ≤ 3) : 0 < (fresh cs (x :: fourC)).length := by
  cases e : fresh cs (x :: fourC) with
  | cons _ _ => exact Nat.succ_pos _
  | nil =>
    exfalso
    have nd : fourC.Nodup := by decide +kernel
    have := sub_len (a := fourC) (b := cs) nd fun y hy => by
      have z : y ∉ fresh cs (x :: fourC) := by
        rw [e]
        exact List.not_mem_nil
      unfold fresh at z
      rw [List.mem_filter] at z
      cases q : cs.any (· == y) with
      | true =>
        obtain ⟨u, hu, eu⟩ := List.any_eq_true.mp q
        rw [← beq_iff_eq.mp eu]
        exact hu
      | false =>
        refine absurd ⟨List.mem_cons_of_mem _ hy, ?_⟩ z
        rw [q]
        rfl
    have l4 : fourC.length = 4 := rfl
    omega
theorem nm_text {x : Str} (h : nmS x = true) : (reprText x).length ≤ 82 ∧ x.length ≤ 8 := by
  unfold nmS at h
  rw [Bool.and_eq_true, Bool.and_eq_true, decide_eq_true_eq, decide_eq_true_eq, List.all_eq_true] at h
  obtain ⟨_, h8, hl⟩ := h
  have e := StrLaws.reprText_len x fun c hc => by
    have z := hl c hc
    unfold lowB at z
    rw [Bool.and_eq_true, decide_eq_true_eq, decide_eq_true_eq] at z
    omega
  omega
theorem DP.nm {K : PySem.W.Frag} {H : Hp} {P : Addr → Prop} {x : Str} {n : Nat} (h : nmS x = true) : DP K H P (.str x) (.str x) n := .str (Nat.le_trans (nm_text h).1 (by decide)) (Nat.le_trans (nm_text h).2 (by decide))
theorem DPs.nms {K : PySem.W.Frag} {H : Hp} {P : Addr → Prop} {n : Nat} : ∀ {ss : List Str}, ss.all nmS = true → DPs K H P (ss.map V.str) (ss.map Tr.str) n
  | [], _ => .nil
  | x :: r, h => by
    rw [List.all_cons, Bool.and_eq_true] at h
    exact .cons (.nm h.1) (DPs.nms h.2)
theorem ws_nms : ∀ {ss : List Str}, ss.all nmS = true → ws (ss.map Tr.str) ≤ 84 * ss.length
  | [], _ => Nat.zero_le _
  | x :: r, h => by
    rw [List.all_cons, Bool.and_eq_true] at h
    have h1 := ws_nms h.2
    have h2 := (nm_text h.1).1
    show ((reprText x).length + 2) + ws (r.map Tr.str) ≤ 84 * (x :: r).length
    rw [List.length_cons]
    omega
theorem DPs.there {K : PySem.W.Frag} {H : Hp} {P : Addr → Prop} {vs : List V} {ts : List Tr} {n : Nat} (d : DPs K H P vs ts n) : DPs K H (fun c => P c ∧ ∃ o, H c = some o) vs ts n := let ⟨bs, d, p⟩ := d; ⟨bs, d, fun b hb => ⟨p b hb, d.there b hb⟩⟩
theorem DP.there {K : PySem.W.Frag} {H : Hp} {P : Addr → Prop} {v : V} {t : Tr} {n : Nat} (d : DP K H P v t n) : DP K H (fun c => P c ∧ ∃ o, H c = some o) v t n := let ⟨bs, d, p⟩ := d; ⟨bs, d, fun b hb => ⟨p b hb, d.there b hb⟩⟩
def spValid (K : PySem.W.Frag) : Sp := fun vs H Q _ => ∃ (s l : Addr) (ms : List Int) (z b : Int), vs = [.ref s] ∧ Src H s l ms z b ∧ 0 ≤ b ∧ b < 800000 ∧
  ∀ (H' : Hp) (ms' : List Int) (b' : Int) (p : Addr) (us : List V) (ts : List Tr), But s l H H' → Src H' s l ms' z b' → b ≤ b' → b' ≤ b + 100 → H p = none → H' p = some (.lst us) → DPs K H' (fun c => H c = none ∧ c ≠ p) us ts 1 → us.length = 4 → (∀ t ∈ ts, t.w ≤ 400) → Q (.ref p) H'
structure TxtV (K : PySem.W.Frag) (mg : Str → Option Value) (fW : Addr) : Prop where
  gW : mg "_law_word" = some (.ref fW)
  kW : PySem.W.keepIn K (.ref fW) = true
  min : mg "min" = none
  max : mg "max" = none
section
variable {P : Program} {w : World} {K : PySem.W.Frag} {mg : Str → Option Value} {base : Heap} {fD fP fW : Addr}
theorem scValid : FnScope ["_law_source_here", "_law_many", "_law_columns", "_law_k", "_law_words", "_law_split", "_law_picked", "_law_word_here", "_law_column"] ["_law_source_here"] (defScope sValid) := ⟨rfl, rfl, rfl, by decide +kernel, rfl, by decide +kernel, by decide +kernel⟩
theorem ok_valid {f : Addr} {fd fdD fdW : FuncData} (F : Fun K "_law_valid" "_law_valid" sValid f fd) (T : TxtL K mg fD fP) (U : TxtV K mg fW) (GD : FnOk P w K mg base CX0 1 fD fdD ["_law_source_here", "_law_many"] spDraw) (bD : Binds K fdD ["_law_source_here", "_law_many"] [])
    (GW : FnOk P w K mg base CX0 3 fW fdW ["_law_source_here"] spWord) (bW : Binds K fdW ["_law_source_here"] []) : FnOk P w K mg base CX0 4 f fd ["_law_source_here"] (spValid K) := by
  refine F.ok scValid (fun vs H Q E h => ?_) (fun cdv A outer s H vs Q E hr h => ?_)
  · obtain ⟨s, l, ms, z, b, rfl, _⟩ := h
    rfl
  · obtain ⟨a, l, ms, z, b, rfl, hs, b0, b1, k⟩ := h
    have hr1 : Room 1 _ := hr.mono (by decide)
    refine ⟨_, pss_cons (ps_set (i := 1) scValid.nd rfl (Or.inl rfl) (pe_op op_add pe_int (pe_call GD hr1 rfl T.gD T.kD bD .nil pass0 (pa_cons (pv 0) (pa_cons pe_int pa_nil)))))
      (pss_cons (ps_set (i := 2) scValid.nd rfl (Or.inr rfl) (pe_lst pa_nil))
      (pss_cons (ps_for PassesOwn.never rfl (pi_range1 rfl T.range (pa_cons (pv 1) pa_nil)) (pg_name (i := 3) scValid.nd rfl (Or.inl rfl))
        (pss_cons (ps_set (i := 4) scValid.nd rfl (Or.inl rfl) (pe_lst (pa_cons (pe_call GW hr rfl U.gW U.kW bW .nil pass0 (pa_cons (pv 0) pa_nil)) (pa_cons pe_str (pa_cons pe_str (pa_cons pe_str (pa_cons pe_str pa_nil)))))))
        (pss_one (ps_expr (pe_bm PySem.F.plainAttrs_list PySem.F.slot_list_append PySem.F.type_list_append mt_append (pv 2)
          (pa_cons (pe_ix ix_list (pe_lc (own := [("_law_word_here", 7)]) (g := gName 7) (tt := tTest (tOp (rIn K true) (tVar 7) (tVar 2))) (te := tVar 7) rfl scValid.nd (pi_list (pv 4))
            (blkOk_by (N := ["_law_source_here", "_law_many", "_law_columns", "_law_k", "_law_words", "_law_split", "_law_picked", "_law_word_here", "_law_column"]) (sc := defScope sValid) (by decide +kernel))
            (fun _ _ _ _ _ => pg_name (i := 7) scValid.nd rfl (Or.inl rfl)) (fun _ _ _ _ _ => by exact (pts_one (pt_cmpR op_notIn_seq (pv 7) (pv 2) (by rfl)))) (fun _ _ _ _ _ => by exact (pv 7)))
            pe_int (fun _ _ => rfl)) pa_nil))))))
      (pss_cons (ps_set (i := 5) scValid.nd rfl (Or.inl rfl) (pe_callB (call_max2 rfl) (by rfl) U.max (by decide +kernel) (pa_cons (pe_op op_sub (pv 1) pe_int)
        (pa_cons (pe_callB (call_min2 rfl) (by rfl) U.min (by decide +kernel) (pa_cons pe_int (pa_cons (pe_call GD hr1 rfl T.gD T.kD bD .nil pass0 (pa_cons (pv 0) (pa_cons (pe_op op_add (pv 1) pe_int) pa_nil))) pa_nil))) pa_nil))))
      (pss_cons (ps_setLc (i := 6) (own := [("_law_column", 8)]) (g := gName 8) (te := tVar 8) rfl scValid.nd rfl rfl (sw_true rfl rfl rfl (by decide +kernel)) (pi_list (pv 2))
            (blkOk_by (N := ["_law_source_here", "_law_many", "_law_columns", "_law_k", "_law_words", "_law_split", "_law_picked", "_law_word_here", "_law_column"]) (sc := defScope sValid) (by decide +kernel))
            (fun _ _ _ _ _ => pg_name (i := 8) scValid.nd rfl (Or.inl rfl)) (fun _ _ _ _ _ => pts_one (pt_cmpR op_eq (pe_call GD hr1 rfl T.gD T.kD bD .nil pass0 (pa_cons (pv 0) (pa_cons pe_int pa_nil))) pe_int (nomark _))) (fun _ _ _ _ _ => by exact (pv 8)))
      (pss_one (ps_ret (pe_lst (pa_cons (pe_call GW hr rfl U.gW U.kW bW .nil pass0 (pa_cons (pv 0) pa_nil))
        (pa_cons (pe_callTy call_tupleF (by rfl) T.tuple (by decide +kernel) (pa_cons (pe_slice sl_list (pv 2) po_none (po_some (pv 5))) pa_nil))
        (pa_cons (pe_callTy call_tupleF (by rfl) T.tuple (by decide +kernel) (pa_cons (pe_slice sl_list (pv 2) (po_some (pv 5)) po_none) pa_nil))
        (pa_cons (pe_callTy call_tupleF (by rfl) T.tuple (by decide +kernel) (pa_cons (pv 6) pa_nil)) pa_nil))))))))))), ?_⟩
    have big : sizeLine > 1000 := by decide
    refine ⟨_, rfl, a, l, ms, z, b, 4, rfl, hs, by decide, by decide, b0, by omega, fun H1 ms1 r1 k1 hs1 p1 q1 => ⟨_, _, rfl, rfl, Nat.zero_le _, fun L hL => ?_⟩⟩
    obtain ⟨La, Ll⟩ := hs1.free hL
    have hLH := k1.back hs1 hL
    have put : ∀ {H2 : Hp} {D : Addr} {u : HO}, H D = none → But a l H H2 → But a l H (upd H2 D u) := fun {H2 D u} hD kk c o n1 n2 e => by
      rw [upd_ne fun q => by rw [q, hD] at e; exact nomatch e]
      exact kk c o n1 n2 e
    have putS : ∀ {H2 : Hp} {D : Addr} {u : HO} {ms' : List Int} {q : Int}, D ≠ a → D ≠ l → Src H2 a l ms' z q → Src (upd H2 D u) a l ms' z q := fun {H2 D u ms' q} n1 n2 hh => ⟨by
      rw [upd_ne n1.symm]
      exact hh.hs, by
      rw [upd_ne n2.symm]
      exact hh.hl, hh.len⟩
    refine ⟨_, rfl, 1 + r1, rfl, by omega, by omega, for_range (lo := 0) (n := (1 + r1).toNat) (fun i σ H' => ∃ (ms' : List Int) (b' : Int) (cs : List Str) (v3 v4 : Option V), σ = [some (.ref a), some (.int (1 + r1)), some (.ref L), v3, v4, none, none, none, none] ∧
      But a l H H' ∧ Src H' a l ms' z b' ∧ b ≤ b' ∧ b' ≤ b + 1 + 12 * (i : Int) ∧ H' L = some (.lst (cs.map V.str)) ∧ cs.length = i ∧ cs.all nmS = true) ?_ ?_ ?_⟩
    · exact ⟨ms1, b + 1, [], none, none, rfl, put hLH k1, putS La Ll hs1, by omega, by omega, upd_same, rfl, rfl⟩
    · rintro i σ H2 hi ⟨ms2, b2, cs, v3, v4, rfl, k2, hs2, c1, c2, e2, lc, nc⟩
      refine ⟨_, rfl, a, l, ms2, z, b2, rfl, hs2, by omega, by omega, fun H3 ms3 b3 x k3 hs3 c3 c4 nx => ⟨by show 5 ≤ sizeLine; omega, fun W hW => ?_⟩⟩
      have e3 : H3 L = some (.lst (cs.map V.str)) := k3 _ _ La Ll e2
      have k03 := k2.trans k3
      have hWH := k03.back hs3 hW
      obtain ⟨Wa, Wl⟩ := hs3.free hW
      have WL : W ≠ L := fun q => by
        rw [q, e3] at hW
        cases hW
      refine ⟨_, rfl, .inl ⟨rfl, _, SqL.of (by rw [upd_ne WL.symm]; exact e3)⟩, _, rfl, W, rfl, ⟨_, SqL.of upd_same⟩, fun D hD => ?_⟩
      have s4 : Same H3 (upd H3 W (.lst ((x :: fourC).map V.str))) := same_upd hW
      have eW : upd H3 W (.lst ((x :: fourC).map V.str)) W = some (.lst ((x :: fourC).map V.str)) := upd_same
      have hs4 : Src (upd H3 W (.lst ((x :: fourC).map V.str))) a l ms3 z b3 := hs3.but s4
      have k04 : But a l H (upd H3 W (.lst ((x :: fourC).map V.str))) := put hWH k03
      have e4 : upd H3 W (.lst ((x :: fourC).map V.str)) L = some (.lst (cs.map V.str)) := s4 _ _ e3
      have hD' : upd H3 W (.lst ((x :: fourC).map V.str)) D = none := hD
      show ∃ W' : Nat → Nat → Hp → Prop, _
      refine lc_list (K := K) (a := W) (xs := (x :: fourC).map V.str) (fun j H' => Same (upd H3 W (.lst ((x :: fourC).map V.str))) H' ∧ H' D = some (.lst ((fresh cs ((x :: fourC).take j)).map V.str))) ⟨same_upd hD', upd_same⟩ (fun j H' _ q => SqL.of (q.1 _ _ eW)) ?_ ?_
      · rintro j y H5 hj ⟨s5, e5⟩
        obtain ⟨u, eu, rfl⟩ := map_at hj
        refine ⟨rfl, _, rfl, _, rfl, L, cs.map V.str, rfl, .inl (SqL.of (s5 _ _ e4)), rfl, flat_strs cs, _, rfl, ?_⟩
        have step : fresh cs ((x :: fourC).take (j + 1)) = if (!cs.any (· == u)) = true then fresh cs ((x :: fourC).take j) ++ [u] else fresh cs ((x :: fourC).take j) := by
          unfold fresh
          rw [List.take_add_one, eu]
          show ((((x :: fourC).take j) ++ [u]).filter _) = _
          rw [List.filter_append]
          cases q : cs.any (· == u) with
          | true => simp [q]
          | false => simp [q]
        show if (!inV (.str u) (cs.map V.str)) = true then _ else _
        rw [inV_str]
        refine iteB (fun e => ?_) (fun e => ?_)
        · refine ⟨_, rfl, _, e5, ?_, fun c o q => ?_, ?_⟩
          · rw [List.length_map]
            have l1 := List.length_filter_le (fun z => !cs.any (· == z)) ((x :: fourC).take j)
            have l2 : ((x :: fourC).take j).length ≤ 5 := by
              rw [List.length_take]
              exact Nat.min_le_right _ _
            unfold fresh
            omega
          · rw [upd_ne (ne_of_none q hD')]
            exact s5 c o q
          · rw [upd_same, step, if_pos e, List.map_append]
            rfl
        · refine ⟨s5, ?_⟩
          rw [step, if_neg (by rw [e]; decide)]
          exact e5
      · rintro H5 ⟨s5, e5⟩
        rw [List.length_map] at e5
        have tk : (x :: fourC).take (x :: fourC).length = x :: fourC := List.take_length
        rw [tk] at e5
        have ne := fresh_ne (cs := cs) x (by omega)
        have alln : (fresh cs (x :: fourC)).all nmS = true := by
          refine List.all_eq_true.mpr fun y hy => ?_
          have hy2 := (List.mem_filter.mp hy).1
          rcases List.mem_cons.mp hy2 with q | q
          · rw [q]
            exact nx
          · exact List.all_eq_true.mp fourC_nm y q
        generalize fresh cs (x :: fourC) = fr at e5 ne alln
        cases fr with
        | nil => exact absurd ne (by decide)
        | cons u rest =>
          have hu : nmS u = true := by
            rw [List.all_cons, Bool.and_eq_true] at alln
            exact alln.1
          refine ⟨D, _, 0, .str u, rfl, rfl, SqL.of e5, atI_nat rfl, L, cs.map V.str, .str u, rfl, rfl, s5 _ _ e4, by rw [List.length_map]; omega, ?_⟩
          have k05 : But a l H H5 := k04.trans (.of_same s5)
          refine ⟨ms3, b3, cs ++ [u], _, _, rfl, put hLH k05, putS La Ll (hs4.but s5), by omega, by omega, ?_, ?_, ?_⟩
          · rw [upd_same, List.map_append]
            rfl
          · rw [List.length_append, lc]
            rfl
          · rw [List.all_append, nc, Bool.true_and]
            show (nmS u && true) = true
            rw [Bool.and_true]
            exact hu
    · rintro σ H2 ⟨ms2, b2, cs, v3, v4, rfl, k2, hs2, c1, c2, e2, lc, nc⟩
      have l4 : cs.length ≤ 4 := by omega
      refine ⟨_, rfl, _, _, rfl, rfl, _, rfl, _, rfl, _, _, rfl, rfl, a, l, ms2, z, b2, 1 + r1 + 1, rfl, hs2, by omega, by omega, by omega, by omega, fun H3 ms3 r2 k3 hs3 p2 q2 => ⟨_, _, rfl, _, _, rfl, ?_⟩⟩
      have e3 : H3 L = some (.lst (cs.map V.str)) := k3 _ _ La Ll e2
      have k03 := k2.trans k3
      generalize hsp : (if (if r2 < 2 then r2 else 2) > 1 + r1 - 2 then (if r2 < 2 then r2 else 2) else 1 + r1 - 2) = sp
      refine ⟨_, rfl, L, rfl, ⟨_, SqL.of e3⟩, fun D hD => ?_⟩
      obtain ⟨Da, Dl⟩ := hs3.free hD
      have hDH := k03.back hs3 hD
      have DL : D ≠ L := fun q => by
        rw [q, e3] at hD
        cases hD
      refine lc_list (K := K) (a := L) (xs := cs.map V.str) (fun j H' => ∃ (ms' : List Int) (es : List Str), But a l H H' ∧ Src H' a l ms' z (b2 + 1 + (j : Int)) ∧ H' D = some (.lst (es.map V.str)) ∧ es.length ≤ j ∧ es.all nmS = true ∧ H' L = some (.lst (cs.map V.str))) ?_ (fun j H' _ ⟨_, _, _, _, _, _, _, q⟩ => SqL.of q) ?_ ?_
      · refine ⟨ms3, [], put hDH k03, ?_, upd_same, Nat.le_refl _, rfl, ?_⟩
        · rw [show b2 + 1 + ((0 : Nat) : Int) = b2 + 1 by omega]
          exact putS Da Dl hs3
        · rw [upd_ne DL.symm]
          exact e3
      · rintro j y H4 hj ⟨ms4, es, k4, hs4, e4, le, ne, eL⟩
        obtain ⟨u, eu, rfl⟩ := map_at hj
        have hu : nmS u = true := List.all_eq_true.mp nc u (List.mem_of_getElem? eu)
        have jl : j < cs.length := (List.getElem?_eq_some_iff.mp eu).1
        refine ⟨rfl, _, rfl, a, l, ms4, z, b2 + 1 + (j : Int), 3, rfl, hs4, by decide, by decide, by omega, by omega, fun H5 ms5 r k5 hs5 p5 q5 => ⟨rfl, _, rfl, ?_⟩⟩
        have e5 : H5 D = some (.lst (es.map V.str)) := k5 _ _ Da Dl e4
        have eL5 : H5 L = some (.lst (cs.map V.str)) := k5 _ _ La Ll eL
        have ej : b2 + 1 + ((j + 1 : Nat) : Int) = b2 + 1 + (j : Int) + 1 := by omega
        refine ite_ (fun _ => ?_) (fun _ => ?_)
        · refine ⟨_, rfl, _, e5, by rw [List.length_map]; omega, ms5, es ++ [u], put hDH (k4.trans k5), ?_, ?_, ?_, ?_, ?_⟩
          · rw [ej]
            exact putS Da Dl hs5
          · rw [upd_same, List.map_append]
            rfl
          · rw [List.length_append]
            show es.length + 1 ≤ j + 1
            omega
          · rw [List.all_append, ne, Bool.true_and]
            show (nmS u && true) = true
            rw [Bool.and_true]
            exact hu
          · rw [upd_ne DL.symm]
            exact eL5
        · exact ⟨ms5, es, k4.trans k5, by rw [ej]; exact hs5, e5, by omega, ne, eL5⟩
      · rintro H4 ⟨ms4, es, k4, hs4, e4, le, ne, eL⟩
        rw [List.length_map] at hs4 le
        refine ⟨_, rfl, a, l, ms4, z, b2 + 1 + (cs.length : Int), rfl, hs4, by omega, by omega, fun H5 ms5 b5 x k5 hs5 c5 d5 nx => ?_⟩
        have e5 : H5 D = some (.lst (es.map V.str)) := k5 _ _ Da Dl e4
        have eL5 : H5 L = some (.lst (cs.map V.str)) := k5 _ _ La Ll eL
        have k05 := k4.trans k5
        have cm : ∀ lo hi, cutV (cs.map V.str) lo hi = (cutL cs lo hi).map V.str := fun lo hi => by
          unfold cutV cutL
          rw [List.length_map, ← List.map_drop, ← List.map_take]
        have ca : ∀ lo hi, (cutL cs lo hi).all nmS = true ∧ (cutL cs lo hi).length ≤ 4 := fun lo hi => by
          refine ⟨List.all_eq_true.mpr fun y hy => List.all_eq_true.mp nc y ?_, ?_⟩
          · exact List.mem_of_mem_drop (List.mem_of_mem_take hy)
          · unfold cutL
            rw [List.length_take, List.length_drop]
            omega
        refine ⟨_, rfl, _, rfl, sp, rfl, L, _, rfl, SqL.of eL5, fun o1 ho1 => ⟨o1, _, rfl, SqL.of upd_same, fun q1 ob1 hq1 hd1 => ?_⟩⟩
        have s1 := (same_upd (o := .lst (cutV (cs.map V.str) none (some sp))) ho1)
        rw [cm] at s1 hq1 ⊢
        have s2 := s1.trans (same_upd (o := .frz ob1 (.tup ((cutL cs none (some sp)).map V.str))) hq1)
        have t1 := (DPs.nms (K := K) (P := fun c => H c = none) (n := 0) (H := upd H5 o1 (.lst ((cutL cs none (some sp)).map V.str))) (ca none (some sp)).1).tup (o := ob1) hq1 (k05.back hs5 (s1.free hq1)) hd1
        show tCons _ _ _ _ _
        generalize upd (upd H5 o1 (.lst ((cutL cs none (some sp)).map V.str))) q1 (.frz ob1 (.tup ((cutL cs none (some sp)).map V.str))) = H6 at s2 t1 ⊢
        refine ⟨_, rfl, _, rfl, sp, rfl, L, _, rfl, SqL.of (s2 _ _ eL5), fun o2 ho2 => ⟨o2, _, rfl, SqL.of upd_same, fun q2 ob2 hq2 hd2 => ?_⟩⟩
        have s3 := s2.trans (same_upd (o := .lst (cutV (cs.map V.str) (some sp) none)) ho2)
        have s3' : Same H6 _ := same_upd (o := .lst (cutV (cs.map V.str) (some sp) none)) ho2
        rw [cm] at s3 s3' hq2 ⊢
        have s4' : Same _ _ := same_upd (o := .frz ob2 (.tup ((cutL cs (some sp) none).map V.str))) hq2
        have s4 := s3.trans s4'
        have t2 := (DPs.nms (K := K) (P := fun c => H c = none) (n := 0) (H := upd H6 o2 (.lst ((cutL cs (some sp) none).map V.str))) (ca (some sp) none).1).tup (o := ob2) hq2 (k05.back hs5 (s3.free hq2)) hd2
        have t1 := t1.same (s3'.trans s4')
        show tCons _ _ _ _ _
        generalize upd (upd H6 o2 (.lst ((cutL cs (some sp) none).map V.str))) q2 (.frz ob2 (.tup ((cutL cs (some sp) none).map V.str))) = H7 at s4 t1 t2 ⊢
        refine ⟨_, rfl, D, _, rfl, SqL.of (s4 _ _ e5), fun q3 ob3 hq3 hd3 => ⟨by show 4 ≤ sizeLine; omega, fun p hp => ?_⟩⟩
        have s5' : Same _ _ := same_upd (o := .frz ob3 (.tup (es.map V.str))) hq3
        have s5 := s4.trans s5'
        have t3 := (DPs.nms (K := K) (P := fun c => H c = none) (n := 0) (H := H7) ne).tup (o := ob3) hq3 (k05.back hs5 (s4.free hq3)) hd3
        have t1 := t1.same s5'
        have t2 := t2.same s5'
        generalize upd H7 q3 (.frz ob3 (.tup (es.map V.str))) = H8 at s5 t1 t2 t3 hp ⊢
        have all : DPs K H8 (fun c => H c = none) [V.str x, .ref q1, .ref q2, .ref q3] [Tr.str x, .tup ((cutL cs none (some sp)).map Tr.str), .tup ((cutL cs (some sp) none).map Tr.str), .tup (es.map Tr.str)] 1 := .cons (.nm nx) (.cons t1 (.cons t2 (.cons t3 .nil)))
        have hs8 := hs5.but s5
        have k8 := k05.trans (.of_same (s := a) (l := l) s5)
        have hpH := k8.back hs8 hp
        obtain ⟨pa, pl⟩ := hs8.free hp
        have wt : ∀ ys : List Str, ys.all nmS = true → ys.length ≤ 4 → (Tr.tup (ys.map Tr.str)).w ≤ 400 := fun ys h1 h2 => by
          have := ws_nms h1
          show 3 + ws (ys.map Tr.str) ≤ 400
          omega
        refine k _ ms5 b5 p _ _ (put hpH k8) (putS pa pl hs8) (by omega) (by omega) hpH upd_same ((all.there.same (same_upd hp)).imp fun c hc => ⟨hc.1, fun e => ?_⟩) rfl fun t ht => ?_
        · obtain ⟨o, ho⟩ := hc.2
          rw [e, hp] at ho
          cases ho
        · simp only [List.mem_cons, List.not_mem_nil, or_false] at ht
          rcases ht with e | e | e | e <;> subst e
          · have := (nm_text nx).1
            show (reprText x).length ≤ 400
            omega
          · exact wt _ (ca _ _).1 (ca _ _).2
          · exact wt _ (ca _ _).1 (ca _ _).2
          · exact wt _ ne (by omega)
end
end Vm
namespace Vm
open PySem L2
abbrev sBent : Stmt := top 24
theorem ws_cut (ts : List Tr) (lo hi : Option Int) : ws (cutL ts lo hi) ≤ ws ts := by
  unfold cutL
  have h1 := ws_split ts (HT.sIx ts.length 0 lo)
  have h2 := ws_split (ts.drop (HT.sIx ts.length 0 lo)) (HT.sIx ts.length ts.length hi - HT.sIx ts.length 0 lo)
  omega
theorem ws_len : ∀ ts : List Tr, 2 * ts.length ≤ ws ts
  | [] => Nat.le_refl _
  | t :: r => by
    have h := ws_len r
    show 2 * (t :: r).length ≤ (t.w + 2) + ws r
    rw [List.length_cons]
    omega
theorem cutL_len {α : Type} (ts : List α) (lo hi : Option Int) : (cutL ts lo hi).length ≤ ts.length := by
  unfold cutL
  rw [List.length_take, List.length_drop]
  omega
def spBent (K : PySem.W.Frag) : Sp := fun vs H Q _ => ∃ (s l : Addr) (ms : List Int) (z b : Int) (v : V) (t : Tr) (P : Addr → Prop), vs = [.ref s, v] ∧ Src H s l ms z b ∧ 0 ≤ b ∧ b < 800000 ∧ DP K H P v t 3 ∧ t.w ≤ 10000 ∧
  (∀ c, P c → Off s l c) ∧ (∀ c, H c = none → P c) ∧ ∀ (H' : Hp) (ms' : List Int) (b' : Int) (v' : V) (t' : Tr), But s l H H' → Src H' s l ms' z b' → b ≤ b' → b' ≤ b + 20 → DP K H' P v' t' 3 → t'.w ≤ 2 * t.w + 400 → Q v' H'
structure TxtE (K : PySem.W.Frag) (mg : Str → Option Value) (fO : Addr) : Prop where
  gO : mg "_law_other" = some (.ref fO)
  kO : PySem.W.keepIn K (.ref fO) = true
section
variable {P : Program} {w : World} {K : PySem.W.Frag} {mg : Str → Option Value} {base : Heap} {fD fP fW fO fNm fNms : Addr}
theorem scBent : FnScope ["_law_source_here", "_law_it", "_law_way", "_law_at", "_law_word_here", "_law_some"] ["_law_source_here", "_law_it"] (defScope sBent) := ⟨rfl, rfl, rfl, by decide +kernel, rfl, by decide +kernel, by decide +kernel⟩
theorem ok_bent {f : Addr} {fd fdD fdW fdO : FuncData} (F : Fun K "_law_bent" "_law_bent" sBent f fd) (T : TxtL K mg fD fP) (U : TxtV K mg fW) (M : TxtE K mg fO) (N : TxtP K mg fNm fNms) (GD : FnOk P w K mg base CX0 1 fD fdD ["_law_source_here", "_law_many"] spDraw) (bD : Binds K fdD ["_law_source_here", "_law_many"] [])
    (GW : FnOk P w K mg base CX0 3 fW fdW ["_law_source_here"] spWord) (bW : Binds K fdW ["_law_source_here"] []) (GO : FnOk P w K mg base CX0 3 fO fdO ["_law_source_here"] (spOther K)) (bO : Binds K fdO ["_law_source_here"] []) :
    FnOk P w K mg base CX0 4 f fd ["_law_source_here", "_law_it"] (spBent K) := by
  refine F.ok scBent (fun vs H Q E h => ?_) (fun cdv A outer s H vs Q E hr h => ?_)
  · obtain ⟨s, l, ms, z, b, v, t, P, rfl, _⟩ := h
    rfl
  · obtain ⟨a, l, ms, z, b, v, t, PP, rfl, hs, b0, b1, d, tw, off, free, k⟩ := h
    have hr1 : Room 1 _ := hr.mono (by decide)
    refine ⟨_, pss_cons (ps_set (i := 2) scBent.nd rfl (Or.inl rfl) (pe_call GD hr1 rfl T.gD T.kD bD .nil pass0 (pa_cons (pv 0) (pa_cons pe_int pa_nil))))
      (pss_cons (ps_if (PW.pt (pw_or (pt_cmpR op_eq (pv 2) pe_int (nomark _)) (pw_or1 (pt_not (pt_val (pe_callB call_isi (by rfl) N.isi (by decide +kernel) (pa_cons (pv 1) (pa_cons (pe_bltn (v := .ty "tuple") (by rfl) N.tuple (by decide +kernel) rfl) pa_nil))))))))
        (pss_one (ps_ret (pe_call GO hr rfl M.gO M.kO bO .nil pass0 (pa_cons (pv 0) pa_nil)))) pss_nil)
      (pss_cons (ps_set (i := 3) scBent.nd rfl (Or.inl rfl) (pe_call GD hr1 rfl T.gD T.kD bD .nil pass0 (pa_cons (pv 0) (pa_cons (pe_op op_add (pe_callB call_len_seq (by rfl) T.len (by decide +kernel) (pa_cons (pv 1) pa_nil)) pe_int) pa_nil))))
      (pss_cons (ps_set (i := 4) scBent.nd rfl (Or.inl rfl) (pe_call GW hr rfl U.gW U.kW bW .nil pass0 (pa_cons (pv 0) pa_nil)))
      (pss_cons (ps_set (i := 5) scBent.nd rfl (Or.inl rfl) (pe_lst
        (pa_cons (pe_op op_catD (pe_op op_catD (pe_slice sl_D (pv 1) po_none (po_some (pv 3))) (pe_tupF (pa_cons (pe_call GO hr rfl M.gO M.kO bO .nil pass0 (pa_cons (pv 0) pa_nil)) pa_nil))) (pe_slice sl_D (pv 1) (po_some (pe_op op_add (pv 3) pe_int)) po_none))
        (pa_cons (pe_op op_catD (pv 1) (pe_tupF (pa_cons (pv 4) pa_nil)))
        (pa_cons (pe_revD (pv 1))
        (pa_cons (pe_callTy call_listD (by rfl) T.list (by decide +kernel) (pa_cons (pv 1) pa_nil))
        (pa_cons (pe_op op_catD (pv 1) (pe_slice sl_D (pv 1) po_none (po_some pe_int)))
        (pa_cons (pe_slice sl_D (pv 1) (po_some pe_int) po_none) pa_nil))))))))
      (pss_one (ps_ret (pe_ix ix_list (pv 5) (pe_op op_sub (pv 2) pe_int) (fun _ _ => rfl)))))))), ?_⟩
    have big : sizeLine > 100000 := by decide
    refine ⟨_, rfl, a, l, ms, z, b, 7, rfl, hs, by decide, by decide, b0, by omega, fun H1 ms1 way k1 hs1 w0 w1 => ?_⟩
    have keepP : ∀ {H1 H2 : Hp} {v : V} {t : Tr} {n : Nat}, But a l H1 H2 → DP K H1 PP v t n → DP K H2 PP v t n := fun {H1 H2 v t n} kk d => d.keep fun c o p e => kk c o (off c p).1 (off c p).2 e
    have fr : ∀ {H' : Hp} {ms' : List Int} {q : Int}, But a l H H' → Src H' a l ms' z q → ∀ c, H' c = none → PP c := fun {H' ms' q} kk hh c e => free c (kk.back hh e)
    have other : spOther K [.ref a] H1 Q E0 := by
      refine ⟨a, l, ms1, z, b + 1, rfl, hs1, by omega, by omega, fun H2 ms2 v2 t2 k2 hs2 d2 w2 => ?_⟩
      exact k H2 ms2 _ v2 t2 (k1.trans k2) hs2 (by omega) (by omega) ((d2.lvl (by decide)).imp fun c e => fr k1 hs1 c e) (by omega)
    refine ⟨_, rfl, rfl, _, rfl, ?_⟩
    refine ite_ (fun c => iteT ⟨_, rfl, other⟩) (fun c => ?_)
    have d1 := keepP k1 d
    obtain ⟨bs, dd, _⟩ := d1
    refine ⟨_, rfl, v, _, _, _, isTup t, rfl, .ty _, dd.ty, kit_tup t, _, rfl, ?_⟩
    cases ht : isTup t with
    | false => exact iteT ⟨_, rfl, other⟩
    | true =>
      refine iteF ?_
      obtain ⟨a0, xs, ts, m, rfl, rfl, _, te, r⟩ := d.tupD ht
      have len := r.length
      have wl := ws_len ts
      have tw2 : 3 + ws ts ≤ 10000 := tw
      have sq : ∀ {H' : Hp}, But a l H H' → SqT K H' a0 xs := fun {H'} kk => kk.sqT hs te.sq
      refine ⟨_, rfl, _, rfl, a0, xs, rfl, .inr (sq k1), _, _, rfl, rfl, a, l, ms1, z, b + 1, (xs.length : Int) + 1, rfl, hs1, by omega, by omega, by omega, by omega, fun H2 ms2 at_ k2 hs2 p2 q2 => ?_⟩
      have k12 := k1.trans k2
      refine ⟨_, rfl, a, l, ms2, z, b + 1 + 1, rfl, hs2, by omega, by omega, fun H3 ms3 b3 x k3 hs3 c3 e3 nx => ?_⟩
      have k13 := k12.trans k3
      have d3 := keepP k13 d
      have add : ∀ {H' : Hp} {n : Nat}, Same H H' → True := fun _ => trivial
      have few : ∀ lo hi, (cutL ts lo hi).length ≤ 5000 := fun lo hi => by
        have := cutL_len ts lo hi
        omega
      refine ⟨_, rfl, _, rfl, at_, rfl, PP, ts, 2, d3, fr k13 hs3, fun v4 H4 s4 d4 => ?_⟩
      have hs4 := hs3.but s4
      have k14 := k13.trans (.of_same s4)
      refine ⟨_, rfl, a, l, ms3, z, b3, rfl, hs4, by omega, by omega, fun H5 ms5 v5 t5 k5 hs5 d5 w5 => ⟨by show 1 ≤ sizeLine; omega, fun p5 o5 hp5 ho5 => ?_⟩⟩
      have k15 := k14.trans k5
      have d5' : DP K H5 PP v5 t5 2 := d5.imp fun c e => fr k14 hs4 c e
      have d6 := (DPs.cons d5' .nil).tup (o := o5) hp5 (fr k15 hs5 p5 hp5) ho5
      have s6 := same_upd (o := .frz o5 (.tup [v5])) hp5
      have hs6 := hs5.but s6
      have k16 := k15.trans (.of_same s6)
      have d46 := (keepP k5 d4).same s6
      have d36 := (keepP k5 (d3.same s4)).same s6
      generalize upd H5 p5 (.frz o5 (.tup [v5])) = H6 at s6 hs6 k16 d6 d46 d36 ⊢
      refine ⟨PP, _, _, 2, d46, d6, ?_, fr k16 hs6, fun v7 H7 s7 d7 => ?_⟩
      · have := few none (some at_)
        show _ + 1 ≤ sizeLine
        omega
      have k17 := k16.trans (.of_same (s := a) (l := l) s7)
      have d37 := d36.same s7
      refine ⟨_, rfl, _, rfl, _, _, rfl, rfl, _, rfl, PP, ts, 2, d37, fr k17 (hs6.but s7), fun v8 H8 s8 d8 => ?_⟩
      have s68 := s7.trans s8
      have k18 := k16.trans (.of_same (s := a) (l := l) s68)
      refine ⟨PP, _, _, 2, d7.same s8, d8, ?_, fr k18 (hs6.but s68), fun v9 H9 s9 d9 => ?_⟩
      · have h1 := few none (some at_)
        have h2 := few (some (at_ + 1)) none
        rw [List.length_append]
        show _ + 1 + _ ≤ sizeLine
        omega
      have s69 := s68.trans s9
      have k19 := k16.trans (.of_same (s := a) (l := l) s69)
      have d39 := d36.same s69
      -- it + (word,)
      refine ⟨_, rfl, _, rfl, by show 1 ≤ sizeLine; omega, fun pa oa hpa hoa => ?_⟩
      have da := (DPs.cons (DP.nm (K := K) (H := H9) (P := PP) (n := 2) nx) .nil).tup (o := oa) hpa (fr k19 (hs6.but s69) pa hpa) hoa
      have sa := s69.trans (same_upd (o := .frz oa (.tup [V.str x])) hpa)
      have sa' : Same H9 _ := same_upd (o := .frz oa (.tup [V.str x])) hpa
      have d9 := d9.same sa'
      have d3a := d36.same sa
      generalize upd H9 pa (.frz oa (.tup [V.str x])) = Ha at sa da d9 d3a ⊢
      refine ⟨PP, _, _, 2, d3a, da, by show ts.length + 1 ≤ sizeLine; omega, fr (k16.trans (.of_same sa)) (hs6.but sa), fun vb Hb sb db => ?_⟩
      have sab := sa.trans sb
      -- it[::-1]
      refine ⟨_, rfl, PP, ts, 2, d36.same sab, fr (k16.trans (.of_same sab)) (hs6.but sab), fun vc Hc sc dc => ?_⟩
      have sac := sab.trans sc
      -- list(it)
      refine ⟨_, rfl, PP, _, ts, 2, rfl, d36.same sac, fr (k16.trans (.of_same sac)) (hs6.but sac), fun vd Hd sd dd => ?_⟩
      have sad := sac.trans sd
      -- it + it[:1]
      refine ⟨_, rfl, _, rfl, 1, rfl, PP, ts, 2, d36.same sad, fr (k16.trans (.of_same sad)) (hs6.but sad), fun ve He se de => ?_⟩
      have sae := sad.trans se
      refine ⟨PP, _, _, 2, d36.same sae, de, ?_, fr (k16.trans (.of_same sae)) (hs6.but sae), fun vf Hf sf df => ?_⟩
      · have := few none (some 1)
        omega
      have saf := sae.trans sf
      -- it[1:]
      refine ⟨_, rfl, 1, rfl, PP, ts, 2, d36.same saf, fr (k16.trans (.of_same saf)) (hs6.but saf), fun vg Hg sg dg => ⟨by show 6 ≤ sizeLine; omega, fun q hq => ?_⟩⟩
      have sag := saf.trans sg
      have sqq := same_upd (o := .lst [v9, vb, vc, vd, vf, vg]) hq
      have saq := sag.trans sqq
      have all : DPs K (upd Hg q (.lst [v9, vb, vc, vd, vf, vg])) PP [v9, vb, vc, vd, vf, vg] _ 3 :=
        .cons ((((((((d9.same sb).same sc).same sd).same se).same sf).same sg).same sqq)) (.cons ((((((db.same sc).same sd).same se).same sf).same sg).same sqq) (.cons (((((dc.same sd).same se).same sf).same sg).same sqq)
          (.cons ((((dd.same se).same sf).same sg).same sqq) (.cons ((df.same sg).same sqq) (.cons (dg.same sqq) .nil)))))
      obtain ⟨j, rfl⟩ : ∃ j : Nat, way = ((j + 1 : Nat) : Int) := ⟨(way - 1).toNat, by
        have : way ≠ 0 := fun e => c (by rw [e])
        omega⟩
      have hj : j < [v9, vb, vc, vd, vf, vg].length := by
        show j < 6
        omega
      obtain ⟨t9, et, dt⟩ := all.get (List.getElem?_eq_getElem hj)
      refine ⟨_, rfl, _, rfl, _, _, rfl, rfl, q, _, j, [v9, vb, vc, vd, vf, vg][j], rfl, ?_, SqL.of upd_same, atI_nat (List.getElem?_eq_getElem hj), ?_⟩
      · show V.int (((j + 1 : Nat) : Int) - 1) = _
        congr 1
        omega
      refine k _ ms5 _ _ t9 (k16.trans (.of_same saq)) (hs6.but saq) (by omega) (by omega) dt ?_
      have mem := List.mem_of_getElem? et
      simp only [List.mem_cons, List.not_mem_nil, or_false] at mem
      have wt : (Tr.tup ts).w = 3 + ws ts := rfl
      have x82 := (nm_text nx).1
      rw [wt]
      rcases mem with e | e | e | e | e | e <;> subst e
      · have h1 := ws_cut ts none (some at_)
        have h2 := ws_cut ts (some (at_ + 1)) none
        show 3 + ws _ ≤ _
        rw [ws_append, ws_append]
        show 3 + (ws _ + ((t5.w + 2) + 0) + ws _) ≤ _
        omega
      · show 3 + ws _ ≤ _
        rw [ws_append]
        show 3 + (ws ts + (((reprText x).length + 2) + 0)) ≤ _
        omega
      · show 3 + ws _ ≤ _
        rw [ws_rev]
        omega
      · show 3 + ws ts ≤ _
        omega
      · have h1 := ws_cut ts none (some 1)
        show 3 + ws _ ≤ _
        rw [ws_append]
        omega
      · have h1 := ws_cut ts (some 1) none
        show 3 + ws _ ≤ _
        omega
end
end Vm
namespace Vm
open PySem PySem.Spec PyProof.Rows L2
abbrev sHeard : Stmt := top 25
/-! a class made in a try: what is raised is wished for at the slots -/
def tMakeS (C : Addr) (sp : Sp) (dvs : List V) (E : L2.St → XK) (t : TA) : TE := fun σ H Q => t σ H fun vs H1 => ∀ x dx, H1 x = none → H1 dx = none → dx ≠ x →
  sp (.ref x :: (vs ++ dvs)) (upd (upd H1 dx (.own x)) x (.ins C dx [])) (fun v H2 => v = .non ∧ Q (.ref x) H2) (E σ)
def tMakeKS (C : Addr) (n m : Nat) (sp : Sp) (gV : List V → List V → List V) (E : L2.St → XK) (t tk : TA) : TE := fun σ H Q => t σ H fun vs H1 => tk σ H1 fun zs H2 => vs.length = n ∧ zs.length = m ∧ ∀ x dx, H2 x = none → H2 dx = none → dx ≠ x →
  sp (gV (.ref x :: vs) zs) (upd (upd H2 dx (.own x)) x (.ins C dx [])) (fun v H3 => v = .non ∧ Q (.ref x) H3) (E σ)
section
variable {X : Cx} {CX : CXT} {k n : Nat} {f C : Addr} {fd : FuncData} {ps ks : List Str} {sp : Sp} {E : L2.St → XK} {x : Str} {p pos : Pos}
/-- an instance is laid, then __init__ runs: the bound values ws stand for xs -/
theorem born {pins : List (Addr × Obj)} {σ : L2.St} {H : Hp} {s : Shared} {Q : VK} {us ws : List Value} {kw : List (Str × Value)} {xs : List V} {E : XK} (M : Mk X.K C f) (F : FnOk X.prog X.w X.K X.mg X.base CX k f fd ps sp) (room : Room (k + 1) X.A) (out : PassesAt CX X σ E)
    (I : Inv X pins σ H s) (bind : ∀ s2 : Shared, X.K.In s2.heap → BindsTo s2 fd ⟨.ref (s.heap.objs.size + 1) :: us, kw⟩ (ps.zip ws)) (rel : Vals xs ws)
    (want : sp xs (upd (upd H s.heap.objs.size (.own (s.heap.objs.size + 1))) (s.heap.objs.size + 1) (.ins C s.heap.objs.size [])) (fun v G => v = .non ∧ Q (.ref (s.heap.objs.size + 1)) G) E) :
    wpAny (model X.prog X.w) X.A (call (.ref C) us kw) (EP X pins σ Q) X.xe s := by
  have J := Inv.made (C := C) I
  have run := F.run _ X.stack _ _ ⟨_, kw⟩ ws xs _ E (room.make C us kw) (J.env0.make C us kw) (bind _ J.kIn) rel want
  refine wpAny_call (make_map I.kIn M.makes M.init (beq_iff_eq.mp M.fn) (codeAny_mono run ?_))
  intro r s' got
  match r, got with
  | .error e, got => exact out pins _ _ e s' J got
  | .ok (.ret u), got =>
    obtain ⟨v, G, J2, rv, rfl, q⟩ := J.after got
    exact ⟨rv, .ref (s.heap.objs.size + 1), G, J2, rfl, q⟩
theorem pe_makeS {e : Expr} {es : List Expr} {t : TA} {dvs : List V} {ds : List Value} (M : Mk X.K C f) (F : FnOk X.prog X.w X.K X.mg X.base CX k f fd ps sp) (room : Room (k + 1) X.A) (glob : Gl X x) (named : X.mg x = some (.ref C)) (bind : Binds X.K fd ps ds) (dflt : Vals dvs ds)
    (out : ∀ σ, PassesAt CX X σ (E σ)) (args : PA X (e :: es) t) (plainName : (x == ("__debug__" : Str)) = false := by decide) (one : starEach (e :: es) X.env = (false, eval e X.env) :: starEach es X.env := by rfl) (noStar : (backTo pos (starEach es X.env)).any (·.1) = false := by rfl) :
    PE X (.Call (.Name x p) (e :: es) [] pos) (tMakeS C sp dvs E t) := by
  constructor
  intro pins s σ H Q I want
  refine wpAny_Call_Name_kw (ld_glob I glob named (PySem.W.callWith_K (h₀ := X.base) I.ok.mod.kin M.kp (thn (args.run pos pins s σ H _ I want) ?_) one noStar) plainName)
  rintro us s1 ⟨vs, H1, I1, rel, q⟩
  have old : ∀ {b}, s1.heap.objs.size ≤ b → H1 b = none := fun {b} l => I1.hok.fresh l
  have q := q (s1.heap.objs.size + 1) s1.heap.objs.size (old (Nat.le_succ _)) (old (Nat.le_refl _)) (Nat.ne_of_lt (Nat.lt_succ_self _))
  have rel2 : Vals (V.ref (s1.heap.objs.size + 1) :: (vs ++ dvs)) (Value.ref (s1.heap.objs.size + 1) :: (us ++ ds)) := .cons rfl (rel.append dflt)
  exact ⟨I1.kIn, born M F room (out σ) I1 (fun s2 K2 => bind s2 (.ref (s1.heap.objs.size + 1) :: us) K2 ((rel2.length.symm.trans (F.len _ _ _ _ q) : (Value.ref (s1.heap.objs.size + 1) :: (us ++ ds)).length = ps.length))) rel2 q⟩
theorem pe_makeKS {kws : List Keyword} {tk : TA} {g : List Value → List Value → List Value} {gV : List V → List V → List V} (M : Mk X.K C f) (F : FnOk X.prog X.w X.K X.mg X.base CX k f fd ps sp) (room : Room (k + 1) X.A) (glob : Gl X x) (named : X.mg x = some (.ref C)) (bind : KBn X.K fd ps 1 ks g gV)
    (out : ∀ σ, PassesAt CX X σ (E σ)) (kwa : PK X kws tk) (allNamed : (backToKw pos (keywordEach kws X.env)).all (·.1.isSome) = true := by rfl) (names : (backToKw pos (keywordEach kws X.env)).filterMap (·.1) = ks := by rfl) (plainName : (x == ("__debug__" : Str)) = false := by decide)
    (noStar : ((backTo pos (starEach [] X.env)).any (·.1) || (backToKw pos (keywordEach kws X.env)).any (·.1.isNone)) = false := by rfl) : PE X (.Call (.Name x p) [] kws pos) (tMakeKS C 0 ks.length sp gV E tNil tk) := by
  constructor
  intro pins s σ H Q I want
  refine wpAny_Call_Name_kw (ld_glob I glob named (PySem.W.callWith_KW0 (h₀ := X.base) I.ok.mod.kin M.kp allNamed (thn (kwa.run pos pins s σ H _ I want) ?_) noStar) plainName)
  rintro ws s1 ⟨zs, H1, I1, rel, _, l2, q⟩
  have old : ∀ {b}, s1.heap.objs.size ≤ b → H1 b = none := fun {b} l => I1.hok.fresh l
  rw [names]
  exact ⟨I1.kIn, born M F room (out σ) I1 (fun s2 K2 => bind.to s2 _ ws K2 rfl (rel.length ▸ l2)) (bind.rel (show Vals [V.ref (s1.heap.objs.size + 1)] [Value.ref (s1.heap.objs.size + 1)] from .cons rfl .nil) rel) (q (s1.heap.objs.size + 1) s1.heap.objs.size (old (Nat.le_succ _)) (old (Nat.le_refl _)) (Nat.ne_of_lt (Nat.lt_succ_self _)))⟩
theorem pss_cond {X : Cx} {b : List Stmt} {c : Prop} {t : TS} (k : c → PSs X b t) : PSs X b (fun D σ H => c ∧ t D σ H) := ⟨fun pins s σ H D I h => (k h.1).run pins s σ H D I h.2⟩
end
def spHeard (K : PySem.W.Frag) (C : Addr) : Sp := fun vs H Q _ => ∃ (sm : Addr) (v1 v2 v3 v4 : V) (t1 t2 t3 t4 : Tr) (n1 n2 n3 n4 : Nat) (b1 b2 b3 b4 : List Addr) (fl : Bool), vs = [.ref sm, .bl fl] ∧ H sm = some (.lst [v1, v2, v3, v4]) ∧
  Dt K H v1 t1 n1 b1 ∧ Dt K H v2 t2 n2 b2 ∧ Dt K H v3 t3 n3 b3 ∧ Dt K H v4 t4 n4 b4 ∧
  (valid t1 t2 t3 t4 = true → ∀ (H' : Hp) (a dx : Addr), Same H H' → H a = none → H' a = some (.ins C dx (flds v1 v2 v3 v4)) → Q (.ref a) H') ∧ (valid t1 t2 t3 t4 = false → ∀ H', Same H H' → Q .non H')
/-- what the written part says of the errors -/
structure TxtH (K : PySem.W.Frag) (mg : Str → Option Value) (CI tT : Addr) : Prop where
  gT : mg "TurnError" = some (.ref tT)
  gVE : mg "ValueError" = none
  xc : ExcC K CI
  em : PySem.W.exmOne K (.ref CI) (.ref CI) = some true
  k1 : PySem.W.kitOne K (.ref CI) (.ref tT) = some true
  k2 : PySem.W.kitOne K (.ref CI) (.type "ValueError") = some true
section
variable {P : Program} {w : World} {K : PySem.W.Frag} {mg : Str → Option Value} {base : Heap} {fNm fNms fCols fKey C CI tT fI : Addr} {fdI : FuncData} {g : List Value → List Value → List Value}
theorem scHeard : FnScope ["_law_some", "_law_by_name", "_law_found", "e"] ["_law_some", "_law_by_name"] (defScope sHeard) := ⟨rfl, rfl, rfl, by decide +kernel, rfl, by decide +kernel, by decide +kernel⟩
abbrev gKw (vs zs : List V) : List V := match vs, zs with
  | [e], [k, n, s, m] => [e, m, s, n, k]
  | _, _ => []
theorem ok_heard {f : Addr} {fd : FuncData} (F : Fun K "_law_heard" "_law_heard" sHeard f fd) (T : TxtP K mg fNm fNms) (U : TxtT K mg C CI fCols fKey) (W : TxtH K mg CI tT) (M : Mk K C fI) (GI : FnOk P w K mg base (L2.CX P w) 4 fI fdI ["self", "name", "names", "numbers", "key"] (spInit K C CI))
    (bI : Binds K fdI ["self", "name", "names", "numbers", "key"] []) (kI : KBn K fdI ["self", "name", "names", "numbers", "key"] 1 ["key", "numbers", "names", "name"] g gKw) :
    FnOk P w K mg base CX0 6 f fd ["_law_some", "_law_by_name"] (spHeard K C) := by
  refine F.ok scHeard (fun vs H Q E h => ?_) (fun cdv A outer s H vs Q E hr h => ?_)
  · obtain ⟨sm, v1, v2, v3, v4, t1, t2, t3, t4, n1, n2, n3, n4, b1, b2, b3, b4, fl, rfl, _⟩ := h
    rfl
  · obtain ⟨sm, v1, v2, v3, v4, t1, t2, t3, t4, n1, n2, n3, n4, b1, b2, b3, b4, fl, rfl, hm, d1, d2, d3, d4, yes, no⟩ := h
    have hrm : Room 5 _ := hr
    let ix : Int → TE := fun i => tOp (rIxL K) (tVar 0) (tC (.int i))
    let tb : WX → TS := fun Wx => tIfS (tB (tVar 1)) (tAsg (tMakeKS C 0 (["key", "numbers", "names", "name"] : List Str).length (spInit K C CI) gKw (WE Wx) tNil (tCons (ix 3) (tCons (ix 2) (tCons (ix 1) (tCons (ix 0) tNil))))) (gName 2))
      (tAsg (tMakeS C (spInit K C CI) [] (WE Wx) (tCons (ix 0) (tCons (ix 1) (tCons (ix 2) (tCons (ix 3) tNil))))) (gName 2))
    let isi : Addr → V → TT := fun a c => tB (tCB (rIsE K CI a) (tCons (tVar 3) (tCons (tC c) tNil)))
    let ts : Addr → Value → Option Addr → TS := fun a cls d D σ H => (cls = .ref CI ∧ d = none) ∧ tAsg (tIf (tAnd (isi a (.ref tT)) (isi a (.ty "ValueError"))) (tC .non) (tC (.str "odd"))) (gName 2) D σ H
    refine ⟨_, pss_cons (ps_set (i := 2) scHeard.nd rfl (Or.inl rfl) pe_non)
      (pss_cons (ps_try_as (i := 3) (tb := tb) (ts := ts) (Wout := fun _ _ _ _ => False) rfl rfl scHeard.nd rfl rfl ⟨rfl, by decide, Or.inl U.gI⟩ takes0
        (fun Wx pn xe tk _ => pss_one (by exact (ps_if (pt_val (pv 1))
          (pss_one (ps_set (i := 2) scHeard.nd rfl (Or.inl rfl) (by exact (pe_makeKS M GI hrm rfl U.gC kI (fun σ => passAt tk σ)
            (by exact (pk_cons (pe_ix ix_list (pv 0) pe_int (fun _ _ => rfl)) (pk_cons (pe_ix ix_list (pv 0) pe_int (fun _ _ => rfl)) (pk_cons (pe_ix ix_list (pv 0) pe_int (fun _ _ => rfl)) (pk_cons (pe_ix ix_list (pv 0) pe_int (fun _ _ => rfl)) pk_nil)))))))))
          (pss_one (ps_set (i := 2) scHeard.nd rfl (Or.inl rfl) (by exact (pe_makeS M GI hrm rfl U.gC bI .nil (fun σ => passAt tk σ)
            (by exact (pa_cons (pe_ix ix_list (pv 0) pe_int (fun _ _ => rfl)) (pa_cons (pe_ix ix_list (pv 0) pe_int (fun _ _ => rfl)) (pa_cons (pe_ix ix_list (pv 0) pe_int (fun _ _ => rfl)) (pa_cons (pe_ix ix_list (pv 0) pe_int (fun _ _ => rfl)) pa_nil))))))))))))
        (fun a oe cls d pn hz hf => pss_cond (c := cls = .ref CI ∧ d = none) (fun hc => by
          obtain ⟨rfl, rfl⟩ := hc
          exact pss_one (ps_set (i := 2) scHeard.nd rfl (Or.inl rfl) (by exact (pe_ifExp (PW.pt (pw_and
            (pt_val (pe_callB (call_isE W.xc hz hf) (by rfl) T.isi (by decide +kernel) (pa_cons (pv 3) (pa_cons (pe_glob (v := .ref tT) (by rfl) W.gT rfl) pa_nil))))
            (pw_and1 (pt_val (pe_callB (call_isE W.xc hz hf) (by rfl) T.isi (by decide +kernel) (pa_cons (pv 3) (pa_cons (pe_bltn (v := .ty "ValueError") (by rfl) W.gVE (by decide +kernel) rfl) pa_nil))))))) pe_non pe_str))))))
      (pss_one (ps_ret (pv 2)))), ?_⟩
    have it : ∀ (i : Nat) (v : V), [v1, v2, v3, v4][i]? = some v → atI [v1, v2, v3, v4] (i : Int) = some v := fun i v e => atI_nat e
    have made : ∀ {x dx : Addr}, H x = none → H dx = none → Same H (upd (upd H dx (.own x)) x (.ins C dx [])) := fun {x dx} hx hdx b o e => by
      rw [upd_ne (ne_of_none e hx), upd_ne (ne_of_none e hdx)]
      exact e
    have bad : valid t1 t2 t3 t4 = false → ∀ H', Same H H' → ∀ σ' : L2.St, σ' = [some (.ref sm), some (.bl fl), some .non, none] → wAs K (.ref CI) 3 ts (fun _ _ _ _ => False) { nx := tRet (tVar 2) { nx := fun _ H' => Q .non H', rt := Q }, rt := Q } (.ref CI) none σ' H' := fun z H' s' σ' e => by
      subst e
      refine ⟨true, W.em, fun _ a ha => ⟨⟨rfl, rfl⟩, ?_⟩, fun q => nomatch q⟩
      refine ⟨_, rfl, .ref tT, .ref tT, true, rfl, fun u r => r, W.k1, _, rfl, ?_⟩
      refine iteT ⟨_, rfl, .ty "ValueError", .type "ValueError", true, rfl, fun u r => r, W.k2, _, rfl, ?_⟩
      refine iteT ?_
      exact ⟨_, rfl, no z H' s'⟩
    have good : valid t1 t2 t3 t4 = true → ∀ {x dx : Addr}, H x = none → H dx = none → ∀ H', (∀ b o, b ≠ x → upd (upd H dx (.own x)) x (.ins C dx []) b = some o → H' b = some o) → H' x = some (.ins C dx (flds v1 v2 v3 v4)) → Q (.ref x) H' := fun z {x dx} hx hdx H' k e =>
      yes z H' x dx (fun b o q => k b o (ne_of_none q hx) (made hx hdx b o q)) hx e
    refine ⟨_, rfl, fl, rfl, ?_⟩
    cases fl with
    | true =>
      refine iteT ?_
      refine ⟨_, rfl, sm, _, 3, v4, rfl, rfl, SqL.of hm, it 3 v4 rfl, _, rfl, sm, _, 2, v3, rfl, rfl, SqL.of hm, it 2 v3 rfl, _, rfl, sm, _, 1, v2, rfl, rfl, SqL.of hm, it 1 v2 rfl, _, rfl, sm, _, 0, v1, rfl, rfl, SqL.of hm, it 0 v1 rfl, rfl, rfl, fun x dx hx hdx ne => ?_⟩
      have s1 := made hx hdx
      exact ⟨x, dx, v1, v2, v3, v4, t1, t2, t3, t4, n1, n2, n3, n4, b1, b2, b3, b4, rfl, upd_same, d1.same s1, d2.same s1, d3.same s1, d4.same s1, fun z H' k e => ⟨rfl, _, rfl, good z hx hdx H' k e⟩, fun z H' s' => bad z H' (s1.trans s') _ rfl⟩
    | false =>
      refine iteF ?_
      refine ⟨_, rfl, sm, _, 0, v1, rfl, rfl, SqL.of hm, it 0 v1 rfl, _, rfl, sm, _, 1, v2, rfl, rfl, SqL.of hm, it 1 v2 rfl, _, rfl, sm, _, 2, v3, rfl, rfl, SqL.of hm, it 2 v3 rfl, _, rfl, sm, _, 3, v4, rfl, rfl, SqL.of hm, it 3 v4 rfl, fun x dx hx hdx ne => ?_⟩
      have s1 := made hx hdx
      exact ⟨x, dx, v1, v2, v3, v4, t1, t2, t3, t4, n1, n2, n3, n4, b1, b2, b3, b4, rfl, upd_same, d1.same s1, d2.same s1, d3.same s1, d4.same s1, fun z H' k e => ⟨rfl, _, rfl, good z hx hdx H' k e⟩, fun z H' s' => bad z H' (s1.trans s') _ rfl⟩
end
end Vm
namespace Vm
open PySem L2
abbrev sLClash : Stmt := top 28
/-! texts as plain data -/
theorem strOk_nm {x : Str} (h : nmS x = true) : PyData.strOk x = true := by
  unfold nmS at h
  rw [Bool.and_eq_true, Bool.and_eq_true, decide_eq_true_eq, decide_eq_true_eq, List.all_eq_true] at h
  obtain ⟨_, _, hl⟩ := h
  unfold PyData.strOk
  rw [← Array.all_toList, List.all_eq_true]
  intro c hc
  have z := hl c hc
  unfold lowB at z
  rw [Bool.and_eq_true, decide_eq_true_eq, decide_eq_true_eq] at z
  exact decide_eq_true (by omega)
theorem layStrs : ∀ {ss : List Str}, ss.all nmS = true → PyData.canLayAll0 (ss.map PyData.str) = true
  | [], _ => rfl
  | x :: r, h => by
    rw [List.all_cons, Bool.and_eq_true] at h
    have ih := layStrs h.2
    simp only [List.map_cons, PyData.canLayAll0, PyData.canLay0, ih, strOk_nm h.1, Bool.and_self]
theorem depthStrs : ∀ ss : List Str, PyData.depthAll (ss.map PyData.str) = 0
  | [] => rfl
  | x :: r => by
    have h := depthStrs r
    simp only [List.map_cons, PyData.depthAll, PyData.depth, h, Nat.max_self]
theorem shapedStrs {ss : List Str} (h : ss.all nmS = true) : SeqAt.shaped (.tuple (ss.map PyData.str)) = true := by
  unfold SeqAt.shaped
  simp only [PyData.canLay0, layStrs h, PyData.depth, depthStrs ss]
  rfl
theorem dpStrs (K : PySem.W.Frag) (H : Hp) : ∀ ss : List Str, DpAll K H (ss.map V.str) (ss.map PyData.str)
  | [] => .nil
  | x :: r => .cons (.str x) (dpStrs K H r)
theorem eqvStrs : ∀ ss zs : List Str, PyData.eqvAll (ss.map PyData.str) (zs.map PyData.str) = decide (ss = zs)
  | [], [] => rfl
  | [], z :: s => rfl
  | x :: r, [] => rfl
  | x :: r, z :: s => by
    have h := eqvStrs r s
    show (x == z && PyData.eqvAll (r.map PyData.str) (s.map PyData.str)) = _
    rw [h]
    by_cases q : x = z
    · subst q
      rw [beq_self_eq_true, Bool.true_and]
      by_cases q2 : r = s
      · rw [decide_eq_true q2, decide_eq_true (by rw [q2])]
      · rw [decide_eq_false q2, decide_eq_false fun w => q2 (List.cons.inj w).2]
    · rw [beq_eq_false_iff_ne.mpr q, Bool.false_and, decide_eq_false fun w => q (List.cons.inj w).1]
/-! two ways to say a clash -/
def clashL (cols ks : List Str) (xs ys : List V) : Bool := decide (ks ≠ []) && ks.all fun k => sameAt xs ys (cols.idxOf k)
theorem idx_get {cols : List Str} (nd : cols.Nodup) {i : Nat} (h : i < cols.length) : cols.idxOf (cols.getD i Str.empty) = i := by
  have e : cols.getD i Str.empty = cols[i] := by
    rw [List.getD_eq_getElem?_getD, List.getElem?_eq_getElem h]
    rfl
  rw [e]
  exact nd.idxOf_getElem i h
theorem clash_ways {cols ks : List Str} (nd : cols.Nodup) (sub : ∀ k ∈ ks, k ∈ cols) (xs ys : List V) : clashL cols ks xs ys = clashB cols ks xs ys := by
  have mem : ∀ i, i ∈ places cols ks cols.length ↔ ∃ k ∈ ks, cols.idxOf k = i := by
    intro i
    unfold places
    rw [List.mem_filter, List.mem_range, List.any_eq_true]
    constructor
    · rintro ⟨h, k, hk, e⟩
      refine ⟨k, hk, ?_⟩
      rw [beq_iff_eq.mp e]
      exact idx_get nd h
    · rintro ⟨k, hk, rfl⟩
      have lt := List.idxOf_lt_length_of_mem (sub k hk)
      refine ⟨lt, k, hk, ?_⟩
      rw [List.getD_eq_getElem?_getD, List.getElem?_eq_getElem lt, List.getElem_idxOf lt]
      exact beq_self_eq_true k
  unfold clashL clashB
  have e1 : decide (ks ≠ []) = decide (0 < (places cols ks cols.length).length) := by
    refine decide_eq_decide.mpr ⟨fun h => ?_, fun h e => ?_⟩
    · cases ks with
      | nil => exact absurd rfl h
      | cons k r => exact List.length_pos_of_mem ((mem _).mpr ⟨k, List.mem_cons_self, rfl⟩)
    · obtain ⟨i, hi⟩ := List.exists_mem_of_length_pos h
      obtain ⟨k, hk, _⟩ := (mem i).mp hi
      rw [e] at hk
      cases hk
  rw [e1]
  congr 1
  rw [Bool.eq_iff_iff, List.all_eq_true, List.all_eq_true]
  constructor
  · intro h i hi
    obtain ⟨k, hk, e⟩ := (mem i).mp hi
    rw [← e]
    exact h k hk
  · intro h k hk
    exact h _ ((mem _).mpr ⟨k, hk, rfl⟩)
def rIdx (K : PySem.W.Frag) : V → List V → Hp → VK → Prop := fun x xs H Q => ∃ p, ∃ ys : List Str, ∃ z j, x = .ref p ∧ xs = [.str z] ∧ SqT K H p (ys.map V.str) ∧ ys[j]? = some z ∧ (∀ m, m < j → ys[m]? ≠ some z) ∧ Q (.int (j : Nat)) H
/-- a table's arguments that are right -/
structure Good (nm : Str) (ss zs ks : List Str) : Prop where
  n1 : nmS nm = true
  n2 : ss.all nmS = true
  n3 : zs.all nmS = true
  n4 : ks.all nmS = true
  l2 : ss.length ≤ 2
  l3 : zs.length ≤ 2
  l4 : ks.length ≤ 4
  ne : 0 < (ss ++ zs).length
  nd : (ss ++ zs).Nodup
  sub : ∀ k ∈ ks, k ∈ ss ++ zs
def spLClash (K : PySem.W.Frag) : Sp := fun vs H Q _ => ∃ (sm p q : Addr) (nm : Str) (ss zs ks : List Str) (xs ys : List V), vs = [.ref sm, .ref p, .ref q] ∧ Args K H sm nm ss zs ks ∧ Good nm ss zs ks ∧ SqT K H p xs ∧ SqT K H q ys ∧
  xs.length = ss.length + zs.length ∧ ys.length = ss.length + zs.length ∧ (∀ (i : Nat) x y, xs[i]? = some x → ys[i]? = some y → scal x y = true) ∧ ∀ H', Same H H' → Q (.bl (clashB (ss ++ zs) ks xs ys)) H'
section
variable {P : Program} {w : World} {K : PySem.W.Frag} {mg : Str → Option Value} {base : Heap} {fNm fNms : Addr}
theorem scLClash : FnScope ["_law_some", "_law_item", "_law_twin", "_law_columns", "_law_unlike", "_law_column"] ["_law_some", "_law_item", "_law_twin"] (defScope sLClash) := ⟨rfl, rfl, rfl, by decide +kernel, rfl, by decide +kernel, by decide +kernel⟩
theorem ok_lclash {f : Addr} {fd : FuncData} (F : Fun K "_law_clash" "_law_clash" sLClash f fd) (T : TxtP K mg fNm fNms) : FnOk P w K mg base CX0 1 f fd ["_law_some", "_law_item", "_law_twin"] (spLClash K) := by
  refine F.ok scLClash (fun vs H Q E h => ?_) (fun cdv A outer s H vs Q E hr h => ?_)
  · obtain ⟨sm, p, q, nm, ss, zs, ks, xs, ys, rfl, _⟩ := h
    rfl
  · obtain ⟨sm, p, q, nm, ss, zs, ks, xs, ys, rfl, ar, gd, hp, hq, lx, ly, sc, k⟩ := h
    obtain ⟨a1, a2, a3, h0, h1, h2, h3⟩ := ar.ex
    have big : sizeLine > 1000 := by decide
    have l2 := gd.l2
    have l3 := gd.l3
    have l4 := gd.l4
    rw [← clash_ways gd.nd gd.sub] at k
    refine ⟨_, pss_cons (ps_set (i := 3) scLClash.nd rfl (Or.inr rfl) (pe_op op_catE (pe_ix ix_list (pv 0) pe_int (fun _ _ => rfl)) (pe_ix ix_list (pv 0) pe_int (fun _ _ => rfl))))
      (pss_cons (ps_setLc (i := 4) (own := [("_law_column", 5)]) (g := gName 5) (tt := tTest (tOp rNe (tOp (rIxT K) (tVar 1) (tBMF (rIdx K) (tVar 3) (tCons (tVar 5) tNil))) (tOp (rIxT K) (tVar 2) (tBMF (rIdx K) (tVar 3) (tCons (tVar 5) tNil))))) (te := tVar 5) rfl scLClash.nd rfl rfl (sw_true rfl rfl rfl (by decide +kernel))
            (pi_tup (pe_ix ix_list (pv 0) pe_int (fun _ _ => rfl)))
            (blkOk_by (N := ["_law_some", "_law_item", "_law_twin", "_law_columns", "_law_unlike", "_law_column"]) (sc := defScope sLClash) (by decide +kernel))
            (fun _ _ _ _ _ => pg_name (i := 5) scLClash.nd rfl (Or.inl rfl))
            (fun _ _ _ _ _ => by exact (pts_one (pt_cmpR op_ne (pe_ix ix_tup (pv 1) (by exact (pe_bmF PySem.F.plainAttrs_tuple PySem.F.slot_tuple_index PySem.F.type_tuple_index mt_tup_index (pv 3) (pa_cons (pv 5) pa_nil))) (fun _ _ => rfl))
              (pe_ix ix_tup (pv 2) (by exact (pe_bmF PySem.F.plainAttrs_tuple PySem.F.slot_tuple_index PySem.F.type_tuple_index mt_tup_index (pv 3) (pa_cons (pv 5) pa_nil))) (fun _ _ => rfl)) (nomark _))))
            (fun _ _ _ _ _ => by exact (pv 5)))
      (pss_one (ps_ret (pe_and (pe_cmpR (op_neD hr.units) (pe_ix ix_list (pv 0) pe_int (fun _ _ => rfl)) (pe_tupF pa_nil) (nomark _)) (pe_one (pe_cmpR (op_eqNil hr.units0) (pv 4) (pe_lst pa_nil) (nomark _))))))), ?_⟩
    have at_ : ∀ {H' : Hp}, Same H H' → SqL K H' sm [.str nm, .ref a1, .ref a2, .ref a3] := fun {H'} s' => SqL.of (s' _ _ h0)
    refine ⟨_, rfl, sm, _, 1, .ref a1, rfl, rfl, at_ (Same.refl H), rfl, _, rfl, sm, _, 2, .ref a2, rfl, rfl, at_ (Same.refl H), rfl, a1, a2, _, _, rfl, rfl, h1, h2, by rw [List.length_map, List.length_map]; omega, fun c H1 s1 hc _ => ?_⟩
    rw [← List.map_append] at hc
    have hcS := hc.ts gd.ne
    refine ⟨_, rfl, sm, _, 3, .ref a3, rfl, rfl, at_ s1, rfl, a3, rfl, ⟨_, sameT s1 h3.sq⟩, fun D hD => ?_⟩
    refine lc_tup (K := K) (a := a3) (xs := ks.map V.str) (fun i H' => Same H1 H' ∧ ∃ acc : List V, H' D = some (.lst acc) ∧ acc.isEmpty = ((ks.take i).all fun k => sameAt xs ys ((ss ++ zs).idxOf k)) ∧ acc.length ≤ i) ⟨same_upd hD, [], upd_same, rfl, Nat.le_refl _⟩ (fun i H' _ z => sameT (s1.trans z.1) h3.sq) ?_ ?_
    · rintro i y H3 hi ⟨s3, acc, e3, em, la⟩
      obtain ⟨u, eu, rfl⟩ := map_at hi
      have iu : i < ks.length := (List.getElem?_eq_some_iff.mp eu).1
      have mem := gd.sub u (List.mem_of_getElem? eu)
      obtain ⟨f1, f2⟩ := idx_first mem
      have lt := List.idxOf_lt_length_of_mem mem
      rw [List.length_append] at lt
      obtain ⟨ob, hob, hod⟩ := hcS.same s3
      generalize hj : (ss ++ zs).idxOf u = j at f1 f2 lt
      have jx : xs[j]? = some (xs.getD j .non) := by
        rw [List.getD_eq_getElem?_getD, List.getElem?_eq_getElem (by omega)]
        rfl
      have jy : ys[j]? = some (ys.getD j .non) := by
        rw [List.getD_eq_getElem?_getD, List.getElem?_eq_getElem (by omega)]
        rfl
      have step : ((ks.take (i + 1)).all fun k => sameAt xs ys ((ss ++ zs).idxOf k)) = (((ks.take i).all fun k => sameAt xs ys ((ss ++ zs).idxOf k)) && sameAt xs ys j) := by
        rw [List.take_add_one, eu, List.all_append]
        simp [hj]
      refine ⟨rfl, ?_⟩
      refine ⟨_, rfl, _, rfl, ⟨c, ob, _, rfl, hob, hod⟩, _, rfl, c, ss ++ zs, u, j, rfl, rfl, TupS.sq ⟨ob, hob, hod⟩, f1, f2, p, xs, (j : Int), _, rfl, rfl, sameT (s1.trans s3) hp, atI_nat jx,
        _, rfl, _, rfl, ⟨c, ob, _, rfl, hob, hod⟩, _, rfl, c, ss ++ zs, u, j, rfl, rfl, TupS.sq ⟨ob, hob, hod⟩, f1, f2, q, ys, (j : Int), _, rfl, rfl, sameT (s1.trans s3) hq, atI_nat jy, sc j _ _ jx jy, _, rfl, ?_⟩
      have e : (!decide (xs.getD j .non = ys.getD j .non)) = !sameAt xs ys j := rfl
      show if (!decide (xs.getD j .non = ys.getD j .non)) = true then _ else _
      rw [e]
      cases es : sameAt xs ys j with
      | true =>
        refine iteF ⟨s3, acc, e3, ?_, by omega⟩
        rw [step, es, Bool.and_true]
        exact em
      | false =>
        refine iteT ⟨_, rfl, acc, e3, by omega, fun b o z => ?_, acc ++ [.str u], upd_same, ?_, ?_⟩
        · rw [upd_ne (ne_of_none z hD)]
          exact s3 b o z
        · rw [step, es, Bool.and_false]
          cases acc <;> rfl
        · rw [List.length_append]
          show acc.length + 1 ≤ i + 1
          omega
    · rintro H3 ⟨s3, acc, e3, em, _⟩
      have s13 := s1.trans s3
      rw [List.length_map, List.take_length] at em
      refine ⟨_, rfl, sm, _, 3, .ref a3, rfl, rfl, at_ s13, rfl, Nat.zero_le _, fun t o ht ho => ?_⟩
      have s4 : Same H3 (upd H3 t (.frz o (.tup []))) := same_upd ht
      refine ⟨_, _, .tup (sameT (s13.trans s4) h3.sq) (dpStrs K _ ks), .tup (.inl (.inr ⟨o, upd_same⟩)) .nil, shapedStrs gd.n4, rfl, _, rfl, ?_⟩
      have ev : PyData.eqv (.tuple (ks.map PyData.str)) (.tuple []) = decide (ks = []) := eqvStrs ks []
      rw [ev]
      generalize upd H3 t (.frz o (.tup [])) = H4 at s4 ⊢
      have s14 := s13.trans s4
      unfold clashL at k
      by_cases hk : ks = []
      · rw [decide_eq_true hk]
        refine iteF ?_
        rw [decide_eq_false (fun z => z hk), Bool.false_and] at k
        exact k H4 s14
      · rw [decide_eq_false hk]
        refine iteT ?_
        rw [decide_eq_true hk, Bool.true_and, ← em] at k
        refine ⟨_, rfl, Nat.zero_le _, fun r hr' => ⟨D, r, acc, rfl, rfl, SqL.of (same_upd hr' _ _ (s4 _ _ e3)), SqL.of upd_same, k _ (s14.trans (same_upd hr'))⟩⟩
end
end Vm
namespace Vm
open PySem PySem.Spec PyProof.Rows L2
/-! calls with keywords alone -/
def tMethK (C : Addr) (m : Str) (sp : Sp) (gV : List V → List V → List V) (E : XK) (ta : TE) (tk : TA) : TE := fun σ H Q => ta σ H fun x H1 => ∃ (a dx : Addr) (fs : List (Str × V)), x = .ref a ∧ H1 a = some (.ins C dx fs) ∧ fs.lookup m = none ∧ tk σ H1 fun zs H2 => sp (gV [.ref a] zs) H2 Q E
section
variable {X : Cx} {CX : CXT} {k : Nat} {f C : Addr} {fd : FuncData} {ps ks : List Str} {sp : Sp} {E : XK} {x m : Str} {p pos apos : Pos} {o : Expr} {kws : List Keyword} {ta : TE} {tk : TA} {g : List Value → List Value → List Value} {gV : List V → List V → List V}
theorem pe_callK0 (F : FnOk X.prog X.w X.K X.mg X.base CX k f fd ps sp) (hr : Room k X.A) (hg : Gl X x) (hm : X.mg x = some (.ref f)) (hk : PySem.W.keepIn X.K (.ref f) = true) (hb : KBinds X.K fd ps ks g gV) (hx : Passes CX X E) (hkw : PK X kws tk)
    (hall : (backToKw pos (keywordEach kws X.env)).all (·.1.isSome) = true := by rfl) (hks : (backToKw pos (keywordEach kws X.env)).filterMap (·.1) = ks := by rfl) (hdb : (x == ("__debug__" : Str)) = false := by decide)
    (hpl : ((backTo pos (starEach [] X.env)).any (·.1) || (backToKw pos (keywordEach kws X.env)).any (·.1.isNone)) = false := by rfl) :
    PE X (.Call (.Name x p) [] kws pos) (tCallK sp gV E tNil tk) := by
  refine ⟨fun pins s σ H Q I h => ?_⟩
  refine wpAny_Call_Name_kw (ld_glob I hg hm ?_ hdb)
  refine PySem.W.callWith_KW0 (h₀ := X.base) I.ok.mod.kin hk hall ?_ hpl
  refine thn (hkw.run pos pins s σ H _ I h) fun ws s2 ⟨zs, H2, I2, rz, q2⟩ => ⟨I2.kIn, ?_⟩
  rw [hks]
  exact run_fnk (us := []) (vs := []) F hr hb hx I2 .nil rz q2
theorem pe_methK0 {pl : Sem Bool} (he : PE X o ta) (c : Cls X.K C) (hm : Meth X.K C m f) (F : FnOk X.prog X.w X.K X.mg X.base CX k f fd ps sp) (hr : Room k X.A) (hb : KBinds X.K fd ps ks g gV) (hx : Passes CX X E) (hkw : PK X kws tk)
    (hall : (backToKw pos (keywordEach kws X.env)).all (·.1.isSome) = true := by rfl) (hks : (backToKw pos (keywordEach kws X.env)).filterMap (·.1) = ks := by rfl)
    (hpl : ((backTo pos (starEach [] X.env)).any (·.1) || (backToKw pos (keywordEach kws X.env)).any (·.1.isNone)) = false := by rfl)
    (ht : eval (.Call (.Attribute o m apos) [] kws pos) X.env = (do
      let ov ← eval o X.env
      standAt apos.atName
      let (f, first) ← holding [ov] (getMethod ov m pl)
      callWith pos f first (backTo pos (starEach [] X.env)) (backToKw pos (keywordEach kws X.env))) := by rfl) :
    PE X (.Call (.Attribute o m apos) [] kws pos) (tMethK C m sp gV E ta tk) := by
  refine ⟨fun pins s σ H Q I h => ?_⟩
  refine PySem.W.methodCall_KW (pl := pl) (thn (he.run pins s σ H _ I h) fun u s1 ⟨x, H1, I1, rx, a, dx, fs, ex, ea, l, q⟩ => ?_) ht
  subst ex
  obtain rfl : u = Value.ref a := rx
  refine getmeth_ok I1 ea c hm l ?_
  refine PySem.W.callWith_KW0 (first := [.ref a]) (h₀ := X.base) I.ok.mod.kin hm.kp hall ?_ hpl
  refine thn (hkw.run pos pins s1 σ H1 _ I1 q) fun ws s2 ⟨zs, H2, I2, rz, q2⟩ => ⟨I2.kIn, ?_⟩
  rw [hks]
  exact run_fnk (us := [.ref a]) (vs := [.ref a]) F hr hb hx I2 (.cons rfl .nil) rz q2
/-- two lists of the same texts are not different -/
def rNeSS (K : PySem.W.Frag) : R2 := fun x y H Q => ∃ (p q : Addr) (ss zs : List Str), x = .ref p ∧ y = .ref q ∧ SqL K H p (ss.map V.str) ∧ SqL K H q (zs.map V.str) ∧ ss = zs ∧ Q (.bl false) H
theorem op_neSS (hu : X.A.units < cLine) : OpR X (compareOp .NotEq) (rNeSS X.K) := by
  intro pins s σ H x y v u Q I rx ry h
  obtain ⟨p, q, ss, zs, rfl, rfl, hp, hq, e, k⟩ := h
  subst e
  cases rx
  cases ry
  obtain ⟨its, r, pl, _⟩ := I.list hp
  obtain ⟨its2, r2, pl2, _⟩ := I.list hq
  have l1 : its.length = ss.length := by rw [← r.length, List.length_map]
  have l2 : its2.length = ss.length := by rw [← r2.length, List.length_map]
  refine SeqAt.RcNeAt.lists (e := fun _ => true) pl.isList pl2.isList (by simp [l1, l2]) hu (fun j h1 h2 => ?_) _ _ _ _ ⟨.bl false, H, I, ?_, k⟩
  · have h1' : j < its.length := by simpa using h1
    have h2' : j < its2.length := by simpa using h2
    have j1 : j < ss.length := by omega
    obtain ⟨u, a1, a2⟩ := r.get (show (ss.map V.str)[j]? = some (V.str ss[j]) by rw [List.getElem?_map, List.getElem?_eq_getElem j1]; rfl)
    obtain ⟨u2, b1, b2⟩ := r2.get (show (ss.map V.str)[j]? = some (V.str ss[j]) by rw [List.getElem?_map, List.getElem?_eq_getElem j1]; rfl)
    obtain ⟨k1, rfl⟩ := a2
    obtain ⟨k2, rfl⟩ := b2
    have c1 : its.toArray[j] = Value.str ss[j] k1 := by
      have := List.getElem?_eq_getElem h1'
      rw [a1] at this
      simpa using (Option.some.inj this).symm
    have c2 : its2.toArray[j] = Value.str ss[j] k2 := by
      have := List.getElem?_eq_getElem h2'
      rw [b1] at this
      simpa using (Option.some.inj this).symm
    rw [c1, c2]
    have z := SeqAt.EqAt.str_str (A := X.A.in1) (s := s) ss[j] k1 ss[j] k2
    rwa [beq_self_eq_true] at z
  · have e : (List.range its.toArray.size).all (fun _ => true) = true := List.all_eq_true.mpr fun _ _ => rfl
    show RelV (.bl false) (.bool (!(List.range its.toArray.size).all fun _ => true))
    rw [e]
    rfl
end
/-! what stays while draws go on -/
section
variable {K : PySem.W.Frag} {s l : Addr} {H H' : Hp} {ms : List Int} {z b : Int}
theorem TupE.but {a : Addr} {xs : List V} (h : TupE K H a xs) (k : But s l H H') (hs : Src H s l ms z b) : TupE K H' a xs := h.imp id fun ⟨o, e, d⟩ => by
  refine ⟨o, k _ _ (fun q => ?_) (fun q => ?_) e, d⟩
  · rw [q, hs.hs] at e
    cases e
  · rw [q, hs.hl] at e
    cases e
theorem Tb.but {C a : Addr} {nm : Str} {ss zs ks : List Str} (t : Tb K H C a nm ss zs ks) (k : But s l H H') (hs : Src H s l ms z b) : Tb K H' C a nm ss zs ks := by
  obtain ⟨⟨dx, a2, a3, a4, h, h2, h3, h4⟩, l2, l3, l4⟩ := t
  refine ⟨⟨dx, a2, a3, a4, k _ _ (fun q => ?_) (fun q => ?_) h, h2.but k hs, h3.but k hs, h4.but k hs⟩, l2, l3, l4⟩
  · rw [q, hs.hs] at h
    cases h
  · rw [q, hs.hl] at h
    cases h
theorem Args.but {sm : Addr} {nm : Str} {ss zs ks : List Str} (h : Args K H sm nm ss zs ks) (k : But s l H H') (hs : Src H s l ms z b) (off : Off s l sm) : Args K H' sm nm ss zs ks := by
  obtain ⟨a1, a2, a3, h0, h1, h2, h3⟩ := h.ex
  exact ⟨a1, a2, a3, k _ _ off.1 off.2 h0, h1.but k hs, h2.but k hs, h3.but k hs⟩
end
end Vm
namespace Vm
open PySem L2
abbrev sRows : Stmt := top 29
/-- a row of the table stands at p -/
structure RowAt (H : Hp) (a b : Nat) (p : Addr) (xs : List V) (ts : List Tr) : Prop where
  at_ : ∃ o : Obj, H p = some (.frz o (.tup xs)) ∧ o.dict = none
  ex : ∃ (ns : List Str) (is : List Int), xs = ns.map V.str ++ is.map V.int ∧ ts = ns.map Tr.str ++ is.map Tr.int ∧ ns.length = a ∧ is.length = b ∧ ns.all nmS = true ∧ ∀ i ∈ is, i.natAbs < 10 ^ 40
theorem RowAt.same {H H' : Hp} {a b : Nat} {p : Addr} {xs : List V} {ts : List Tr} (k : Same H H') (h : RowAt H a b p xs ts) : RowAt H' a b p xs ts := ⟨let ⟨o, e, d⟩ := h.at_; ⟨o, k _ _ e, d⟩, h.ex⟩
theorem RowAt.but {H H' : Hp} {a b : Nat} {p s l : Addr} {xs : List V} {ts : List Tr} {ms : List Int} {z q : Int} (h : RowAt H a b p xs ts) (k : But s l H H') (hs : Src H s l ms z q) : RowAt H' a b p xs ts := by
  refine ⟨?_, h.ex⟩
  obtain ⟨o, e, d⟩ := h.at_
  refine ⟨o, k _ _ (fun y => ?_) (fun y => ?_) e, d⟩
  · rw [y, hs.hs] at e
    cases e
  · rw [y, hs.hl] at e
    cases e
theorem RowAt.upd {H : Hp} {a b : Nat} {p D : Addr} {xs : List V} {ts : List Tr} {u : HO} {ys : List V} (h : RowAt H a b p xs ts) (e : H D = some (.lst ys)) : RowAt (L2.upd H D u) a b p xs ts := by
  refine ⟨?_, h.ex⟩
  obtain ⟨o, e1, d⟩ := h.at_
  refine ⟨o, ?_, d⟩
  rw [upd_ne (fun q => by rw [q, e] at e1; cases e1)]
  exact e1
theorem RowAt.sq {K : PySem.W.Frag} {H : Hp} {a b : Nat} {p : Addr} {xs : List V} {ts : List Tr} (h : RowAt H a b p xs ts) : SqT K H p xs := let ⟨o, e, _⟩ := h.at_; .inl (.inr ⟨o, e⟩)
theorem DPs.ints {K : PySem.W.Frag} {H : Hp} {P : Addr → Prop} {n : Nat} : ∀ {is : List Int}, (∀ i ∈ is, i.natAbs < 10 ^ 40) → DPs K H P (is.map V.int) (is.map Tr.int) n
  | [], _ => .nil
  | i :: r, h => .cons (.int (farOk (h i List.mem_cons_self)).1) (DPs.ints fun j hj => h j (List.mem_cons_of_mem _ hj))
theorem ws_ints : ∀ {is : List Int}, (∀ i ∈ is, i.natAbs < 10 ^ 40) → ws (is.map Tr.int) ≤ 102 * is.length
  | [], _ => Nat.zero_le _
  | i :: r, h => by
    have h1 := ws_ints (is := r) fun j hj => h j (List.mem_cons_of_mem _ hj)
    have h2 := (farOk (h i List.mem_cons_self)).2
    show ((toString i : Str).length + 2) + ws (r.map Tr.int) ≤ 102 * (i :: r).length
    rw [List.length_cons]
    have h3 : ((toString i : Str)).length ≤ 100 := h2
    omega
/-- .. as data -/
theorem RowAt.dp {K : PySem.W.Frag} {H : Hp} {a b : Nat} {p : Addr} {xs : List V} {ts : List Tr} {P : Addr → Prop} (h : RowAt H a b p xs ts) (hP : P p) : DP K H P (.ref p) (.tup ts) 3 := by
  obtain ⟨o, e, d⟩ := h.at_
  obtain ⟨ns, is, rfl, rfl, _, _, h1, h2⟩ := h.ex
  obtain ⟨bs, r, q⟩ := (DPs.nms (K := K) (H := H) (P := fun _ => False) (n := 2) h1).append (DPs.ints (K := K) (H := H) (P := fun _ => False) (n := 2) h2)
  exact ⟨p :: bs, .tup e d r (fun m => q p m), fun c hc => (List.mem_cons.mp hc).elim (fun e => e ▸ hP) fun m => (q c m).elim⟩
theorem RowAt.w {H : Hp} {a b : Nat} {p : Addr} {xs : List V} {ts : List Tr} (h : RowAt H a b p xs ts) (ha : a ≤ 2) (hb : b ≤ 2) : ws ts ≤ 400 ∧ ts.length = a + b ∧ xs.length = a + b := by
  obtain ⟨ns, is, rfl, rfl, l1, l2, h1, h2⟩ := h.ex
  have e1 := ws_nms h1
  have e2 := ws_ints h2
  rw [ws_append, List.length_append, List.length_append, List.length_map, List.length_map, List.length_map, List.length_map]
  omega
theorem RowAt.scal {H : Hp} {a b : Nat} {p q : Addr} {xs ys : List V} {ts us : List Tr} (h : RowAt H a b p xs ts) (h' : RowAt H a b q ys us) : ∀ (i : Nat) x y, xs[i]? = some x → ys[i]? = some y → scal x y = true := by
  obtain ⟨ns, is, rfl, _, l1, l2, _, _⟩ := h.ex
  obtain ⟨ns', is', rfl, _, l1', l2', _, _⟩ := h'.ex
  intro i x y e e'
  by_cases c : i < a
  · rw [List.getElem?_append_left (by rw [List.length_map]; omega)] at e e'
    obtain ⟨u, _, rfl⟩ := map_at e
    obtain ⟨u', _, rfl⟩ := map_at e'
    rfl
  · rw [List.getElem?_append_right (by rw [List.length_map]; omega)] at e e'
    obtain ⟨u, rfl⟩ := map_ix e
    obtain ⟨u', rfl⟩ := map_ix e'
    rfl
theorem clashB_comm (cols ks : List Str) (xs ys : List V) : clashB cols ks ys xs = clashB cols ks xs ys := by
  unfold clashB
  congr 1
  congr 1
  funext i
  unfold sameAt
  exact decide_eq_decide.mpr ⟨Eq.symm, Eq.symm⟩
/-- what stands while the rows are asked -/
structure Stand (K : PySem.W.Frag) (C s l tb sm : Addr) (nm : Str) (ss zs ks : List Str) (H : Hp) : Prop where
  t : Tb K H C tb nm ss zs ks
  a : Args K H sm nm ss zs ks
theorem Stand.same {K : PySem.W.Frag} {C s l tb sm : Addr} {nm : Str} {ss zs ks : List Str} {H H' : Hp} (k : Same H H') (h : Stand K C s l tb sm nm ss zs ks H) : Stand K C s l tb sm nm ss zs ks H' := ⟨h.t.same k, h.a.same k⟩
theorem Stand.but {K : PySem.W.Frag} {C s l tb sm : Addr} {nm : Str} {ss zs ks : List Str} {H H' : Hp} {ms : List Int} {z q : Int} (h : Stand K C s l tb sm nm ss zs ks H) (k : But s l H H') (hs : Src H s l ms z q) (off : Off s l sm) : Stand K C s l tb sm nm ss zs ks H' := ⟨h.t.but k hs, h.a.but k hs off⟩
def spRowsR (K : PySem.W.Frag) (C : Addr) : Sp := fun vs H Q _ => ∃ (s l tb sm : Addr) (ms : List Int) (z b : Int) (nm : Str) (ss zs ks : List Str), vs = [.ref s, .ref tb, .ref sm] ∧ Src H s l ms z b ∧ 0 ≤ b ∧ b < 700000 ∧ Stand K C s l tb sm nm ss zs ks H ∧ Off s l sm ∧ Good nm ss zs ks ∧
  ∀ (H' : Hp) (ms' : List Int) (b' : Int), But s l H H' → Src H' s l ms' z b' → b ≤ b' → b' ≤ b + 100 → Q (.bl true) H'
abbrev kw1 (vs zs : List V) : List V := match vs, zs with
  | [a], [x] => [a, x]
  | _, _ => []
abbrev kw2 (vs zs : List V) : List V := match vs, zs with
  | [a], [x, y] => [a, y, x]
  | _, _ => []
structure TxtW (K : PySem.W.Frag) (mg : Str → Option Value) (C fLR fLI fLC mR mC : Addr) : Prop where
  gLR : mg "_law_row" = some (.ref fLR)
  kLR : PySem.W.keepIn K (.ref fLR) = true
  gLI : mg "_law_is_row" = some (.ref fLI)
  kLI : PySem.W.keepIn K (.ref fLI) = true
  gLC : mg "_law_clash" = some (.ref fLC)
  kLC : PySem.W.keepIn K (.ref fLC) = true
  repr : mg "repr" = none
  mR : Meth K C "is_row" mR
  mC : Meth K C "clash" mC
section
variable {P : Program} {w : World} {K : PySem.W.Frag} {mg : Str → Option Value} {base : Heap} {fD fP fO fNm fNms fCols fKey C CI fLR fLI fLC mR mC : Addr} {g1 g2 : List Value → List Value → List Value}
theorem scRows : FnScope ["_law_source_here", "_law_table", "_law_some", "_law_rows", "_law_wide", "_law_row_here", "_law_at", "_law_twin", "_law_things", "_law_it", "_law_kept", "_law_due", "_law_mate", "_law_k"] ["_law_source_here", "_law_table", "_law_some"] (defScope sRows) := ⟨rfl, rfl, rfl, by decide +kernel, rfl, by decide +kernel, by decide +kernel⟩
theorem ok_rows {f : Addr} {fd fdD fdO fdLR fdLI fdLC fdR fdC : FuncData} (F : Fun K "_law_rows_right" "_law_rows_right" sRows f fd) (T : TxtL K mg fD fP) (M : TxtE K mg fO) (N : TxtP K mg fNm fNms) (U : TxtT K mg C CI fCols fKey) (W : TxtW K mg C fLR fLI fLC mR mC)
    (GD : FnOk P w K mg base CX0 1 fD fdD ["_law_source_here", "_law_many"] spDraw) (bD : Binds K fdD ["_law_source_here", "_law_many"] [])
    (GO : FnOk P w K mg base CX0 3 fO fdO ["_law_source_here"] (spOther K)) (bO : Binds K fdO ["_law_source_here"] [])
    (GLR : FnOk P w K mg base CX0 3 fLR fdLR ["_law_source_here", "_law_some", "_law_far"] (spMkRow K)) (bLR : Binds K fdLR ["_law_source_here", "_law_some", "_law_far"] [])
    (GLI : FnOk P w K mg base CX0 2 fLI fdLI ["_law_some", "_law_it"] (spLRow K)) (bLI : Binds K fdLI ["_law_some", "_law_it"] [])
    (GLC : FnOk P w K mg base CX0 1 fLC fdLC ["_law_some", "_law_item", "_law_twin"] (spLClash K)) (bLC : Binds K fdLC ["_law_some", "_law_item", "_law_twin"] [])
    (GR : FnOk P w K mg base CX0 2 mR fdR ["self", "thing"] (spRow K C)) (bR : Binds K fdR ["self", "thing"] []) (kR : KBinds K fdR ["self", "thing"] ["thing"] g1 kw1)
    (GC : FnOk P w K mg base CX0 3 mC fdC ["self", "one", "other"] (spClash K C)) (bC : Binds K fdC ["self", "one", "other"] []) (kC : KBinds K fdC ["self", "one", "other"] ["other", "one"] g2 kw2) :
    FnG P w K mg base CX0 4 f fd ["_law_source_here", "_law_table", "_law_some"] (spRowsR K C) := by
  refine okG0 F scRows (fun vs H Q E h => ?_) (fun cdv A outer s H vs Q E ag hr h => ?_)
  · obtain ⟨s, l, tb, sm, ms, z, b, nm, ss, zs, ks, rfl, _⟩ := h
    rfl
  · obtain ⟨a, l, tb, sm, ms, z, b, nm, ss, zs, ks, rfl, hs, b0, b1, st, off, gd, k⟩ := h
    have hr1 : Room 1 _ := hr.mono (by decide)
    have hr2 : Room 2 _ := hr.mono (by decide)
    have hu : (A.deeper (PyProof.Rows.envOfC "_law_rows_right" (defScope sRows) s.heap.objs.size f cdv)).units + 16 < cLine := by
      have := hr.units
      omega
    refine ⟨_, pss_cons (ps_setLc (i := 3) (own := [("_law_k", 13)]) (g := gName 13) (tt := tYes) rfl scRows.nd rfl rfl (sw_true rfl rfl rfl (by decide +kernel)) (pi_range1 rfl T.range (pa_cons pe_int pa_nil))
          (blkOk_by (N := ["_law_source_here", "_law_table", "_law_some", "_law_rows", "_law_wide", "_law_row_here", "_law_at", "_law_twin", "_law_things", "_law_it", "_law_kept", "_law_due", "_law_mate", "_law_k"]) (sc := defScope sRows) (by decide +kernel))
          (fun _ _ _ _ _ => pg_name (i := 13) scRows.nd rfl (Or.inl rfl)) (fun _ _ _ _ _ => pts_nil)
          (fun _ _ _ _ _ => pe_call GLR hr rfl W.gLR W.kLR bLR .nil pass0 (pa_cons (pv 0) (pa_cons (pv 2) (pa_cons (pe_op op_sub (pe_op op_pow pe_int pe_int) pe_int) pa_nil)))))
      (pss_cons (ps_set (i := 4) scRows.nd rfl (Or.inl rfl) (pe_call GLR hr rfl W.gLR W.kLR bLR .nil pass0 (pa_cons (pv 0) (pa_cons (pv 2) (pa_cons (pe_op op_add (pe_op op_pow pe_int pe_int)
          (pe_call GD hr1 rfl T.gD T.kD bD .nil pass0 (pa_cons (pv 0) (pa_cons (pe_op op_pow pe_int pe_int) pa_nil)))) pa_nil)))))
      (pss_cons (ps_for PassesOwn.never rfl (pi_list (pv 3)) (pg_name (i := 5) scRows.nd rfl (Or.inl rfl))
        (pss_cons (ps_set (i := 6) scRows.nd rfl (Or.inl rfl) (pe_call GD hr1 rfl T.gD T.kD bD .nil pass0 (pa_cons (pv 0) (pa_cons (pe_op op_add (pe_callB call_len_seq (by rfl) T.len (by decide +kernel) (pa_cons (pv 5) pa_nil)) pe_int) pa_nil))))
        (pss_cons (ps_set (i := 7) scRows.nd rfl (Or.inl rfl) (pe_op op_catD (pe_op op_catD (pe_slice sl_D (pv 5) po_none (po_some (pv 6))) (pe_tupF (pa_cons (pe_call GO hr rfl M.gO M.kO bO .nil pass0 (pa_cons (pv 0) pa_nil)) pa_nil))) (pe_slice sl_D (pv 5) (po_some (pe_op op_add (pv 6) pe_int)) po_none)))
        (pss_cons (ps_set (i := 8) scRows.nd rfl (Or.inl rfl) (pe_lst (pa_cons (pv 5) (pa_cons (pv 7)
          (pa_cons (pe_callTy call_listD (by rfl) T.list (by decide +kernel) (pa_cons (pv 5) pa_nil))
          (pa_cons (pe_slice sl_D (pv 5) (po_some pe_int) po_none)
          (pa_cons (pe_op op_catD (pv 5) (pe_slice sl_D (pv 5) po_none (po_some pe_int)))
          (pa_cons (pe_revD (pv 5))
          (pa_cons (pe_op op_catD (pe_op op_catD (pe_slice sl_D (pv 5) po_none (po_some (pv 6))) (pe_tupF (pa_cons pe_bl pa_nil))) (pe_slice sl_D (pv 5) (po_some (pe_op op_add (pv 6) pe_int)) po_none))
          (pa_cons (pe_tupF (pa_cons (pv 5) pa_nil)) pa_nil))))))))))
        (pss_cons (ps_for PassesOwn.never rfl (pi_list (pe_op op_cat (pv 8) (pe_lst (pa_cons (pe_call GO hr rfl M.gO M.kO bO .nil pass0 (pa_cons (pv 0) pa_nil)) (pa_cons (pv 4) pa_nil))))) (pg_name (i := 9) scRows.nd rfl (Or.inl rfl))
          (pss_cons (ps_par (i := 10) (j := 11) rfl scRows.nd rfl rfl (by decide) rfl rfl (pa_cons (pe_callB (call_reprT ag hu) (by rfl) W.repr (by decide +kernel) (pa_cons (pv 9) pa_nil))
              (pa_cons (pe_callB (call_reprT ag hu) (by rfl) W.repr (by decide +kernel) (pa_cons (pe_call GLI hr2 rfl W.gLI W.kLI bLI .nil pass0 (pa_cons (pv 2) (pa_cons (pv 9) pa_nil))) pa_nil)) pa_nil)) rfl)
          (pss_one (ps_if (pt_cmpR (op_neSS hr.units0) (pe_lst (pa_cons (pe_callB (call_reprT ag hu) (by rfl) W.repr (by decide +kernel) (pa_cons (pe_meth (pl := _) (pv 1) U.cl W.mR GR hr2 bR .nil pass0 (pa_cons (pv 9) pa_nil)) pa_nil))
                (pa_cons (pe_callB (call_reprT ag hu) (by rfl) W.repr (by decide +kernel) (pa_cons (pe_methK0 (pl := _) (pv 1) U.cl W.mR GR hr2 kR pass0 (pk_cons (pv 9) pk_nil)) pa_nil))
                (pa_cons (pe_callB (call_reprT ag hu) (by rfl) W.repr (by decide +kernel) (pa_cons (pv 9) pa_nil)) pa_nil))))
              (pe_lst (pa_cons (pv 11) (pa_cons (pv 11) (pa_cons (pv 10) pa_nil)))) (nomark _)) (pss_one (ps_ret pe_bl)) pss_nil))))
        (pss_one (ps_for PassesOwn.never rfl (pi_list (pv 3)) (pg_name (i := 12) scRows.nd rfl (Or.inl rfl))
          (pss_cons (ps_set (i := 11) scRows.nd rfl (Or.inl rfl) (pe_callB (call_reprT ag hu) (by rfl) W.repr (by decide +kernel) (pa_cons (pe_call GLC hr1 rfl W.gLC W.kLC bLC .nil pass0 (pa_cons (pv 2) (pa_cons (pv 5) (pa_cons (pv 12) pa_nil)))) pa_nil)))
          (pss_one (ps_if (PW.pt (pw_or (pt_cmpR op_ne (pe_callB (call_reprT ag hu) (by rfl) W.repr (by decide +kernel) (pa_cons (pe_meth (pl := _) (pv 1) U.cl W.mC GC hr bC .nil pass0 (pa_cons (pv 5) (pa_cons (pv 12) pa_nil))) pa_nil)) (pv 11) (nomark _))
              (pw_or1 (pt_cmpR op_ne (pe_callB (call_reprT ag hu) (by rfl) W.repr (by decide +kernel) (pa_cons (pe_methK0 (pl := _) (pv 1) U.cl W.mC GC hr kC pass0 (pk_cons (pv 5) (pk_cons (pv 12) pk_nil))) pa_nil)) (pv 11) (nomark _)))))
            (pss_one (ps_ret pe_bl)) pss_nil))))))))))
      (pss_one (ps_ret pe_bl)))), ?_⟩
    have big : sizeLine > 100000 := by decide
    have l2 := gd.l2
    have l3 := gd.l3
    have put : ∀ {H2 : Hp} {D : Addr} {u : HO}, H D = none → But a l H H2 → But a l H (L2.upd H2 D u) := fun {H2 D u} hD kk c o n1 n2 e => by
      rw [upd_ne fun q => by rw [q, hD] at e; exact nomatch e]
      exact kk c o n1 n2 e
    have putS : ∀ {H2 : Hp} {D : Addr} {u : HO} {ms' : List Int} {q : Int}, D ≠ a → D ≠ l → Src H2 a l ms' z q → Src (L2.upd H2 D u) a l ms' z q := fun {H2 D u ms' q} n1 n2 hh => ⟨by
      rw [upd_ne n1.symm]
      exact hh.hs, by
      rw [upd_ne n2.symm]
      exact hh.hl, hh.len⟩
    have pw : ∀ n : Nat, (10 : Int) ^ (n : Int).toNat = 10 ^ n := fun n => rfl
    refine ⟨5, rfl, by decide, by decide, fun D hD => ?_⟩
    obtain ⟨Da, Dl⟩ := hs.free hD
    refine lc_range (lo := 0) (n := 5) (fun i H' => ∃ (ms' : List Int) (b' : Int) (ps : List Addr), But a l H H' ∧ Src H' a l ms' z b' ∧ b ≤ b' ∧ b' ≤ b + 4 * (i : Int) ∧ H' D = some (.lst (ps.map V.ref)) ∧ ps.length = i ∧ ∀ p ∈ ps, (∃ xs ts, RowAt H' ss.length zs.length p xs ts) ∧ Off a l p) ?_ ?_ ?_
    · exact ⟨ms, b, [], put hD (fun _ _ _ _ e => e), putS Da Dl hs, by omega, by omega, upd_same, rfl, fun p h => nomatch h⟩
    · rintro i H2 hi ⟨ms2, b2, ps, k2, hs2, c1, c2, e2, lp, rows⟩
      refine ⟨rfl, ?_⟩
      dsimp only [tYes]
      rw [if_pos rfl]
      have st2 := st.but k2 hs off
      have e12 := pw 12
      refine ⟨_, rfl, _, rfl, _, _, rfl, rfl, ⟨by decide, by decide, by decide⟩, _, _, rfl, rfl, a, l, sm, ms2, z, b2, (10 : Int) ^ (12 : Int).toNat - 1, nm, ss, zs, ks, rfl, hs2, by omega, by omega, st2.a, off.1, off.2, l2, l3, by decide, by decide, fun H3 ms3 b3 p ns is k3 hs3 c3 c4 hp ob ln li an ai => ?_⟩
      have e3 := k3 _ _ Da Dl e2
      have row : RowAt H3 ss.length zs.length p (ns.map V.str ++ is.map V.int) (ns.map Tr.str ++ is.map Tr.int) := ⟨ob, ns, is, rfl, rfl, ln, li, an, ai⟩
      refine ⟨_, e3, by rw [List.length_map]; omega, ms3, b3, ps ++ [p], put hD (k2.trans k3), putS Da Dl hs3, by omega, by omega, ?_, ?_, fun q hq => ?_⟩
      · rw [upd_same, List.map_append]
        rfl
      · rw [List.length_append, lp]
        rfl
      · rcases List.mem_append.mp hq with m | m
        · obtain ⟨⟨xs, ts, r⟩, o⟩ := rows q m
          exact ⟨⟨xs, ts, (r.but k3 hs2).upd e3⟩, o⟩
        · rw [List.mem_singleton.mp m]
          exact ⟨⟨_, _, row.upd e3⟩, hs2.free hp⟩
    rintro H2 ⟨ms2, b2, ps, k2, hs2, c1, c2, e2, lp, rows⟩
    have st2 := st.but k2 hs off
    refine ⟨_, rfl, _, rfl, _, _, rfl, rfl, ⟨by decide, by decide, by decide⟩, _, rfl, _, _, rfl, rfl, ⟨by decide, by decide, by decide⟩, a, l, ms2, z, b2, 10 ^ 6, rfl, hs2, by decide, by decide, by omega, by omega, fun H3 ms3 r3 k3 hs3 p3 q3 => ⟨_, _, rfl, rfl, ?_⟩⟩
    have st3 := st2.but k3 hs2 off
    have e38 : (10 : Int) ^ (38 : Int).toNat = 10 ^ 38 := rfl
    refine ⟨a, l, sm, ms3, z, b2 + 1, (10 : Int) ^ (38 : Int).toNat + r3, nm, ss, zs, ks, rfl, hs3, by omega, by omega, st3.a, off.1, off.2, l2, l3, by rw [e38]; omega, by rw [e38]; omega, fun H4 ms4 b4 Wd ns is k4 hs4 c3 c4 hp ob ln li an ai => ?_⟩
    have wide : RowAt H4 ss.length zs.length Wd (ns.map V.str ++ is.map V.int) (ns.map Tr.str ++ is.map Tr.int) := ⟨ob, ns, is, rfl, rfl, ln, li, an, ai⟩
    have offW : Off a l Wd := hs3.free hp
    generalize ns.map V.str ++ is.map V.int = wv at wide
    generalize ns.map Tr.str ++ is.map Tr.int = wt at wide
    have k24 := k3.trans k4
    have e4 := k24 _ _ Da Dl e2
    have rows4 : ∀ p ∈ ps, (∃ xs ts, RowAt H4 ss.length zs.length p xs ts) ∧ Off a l p := fun p hp => by
      obtain ⟨⟨xs, ts, r⟩, o⟩ := rows p hp
      exact ⟨⟨xs, ts, r.but k24 hs2⟩, o⟩
    have k14 := k2.trans k24
    refine ⟨_, rfl, D, rfl, ⟨_, SqL.of e4⟩, for_list (K := K) (a := D) (xs := ps.map V.ref) (fun i σ H' => ∃ (ms' : List Int) (b' : Int) (v5 v6 v7 v8 v9 v10 v11 v12 : Option V), σ = [some (.ref a), some (.ref tb), some (.ref sm), some (.ref D), some (.ref Wd), v5, v6, v7, v8, v9, v10, v11, v12, none] ∧
      But a l H4 H' ∧ Src H' a l ms' z b' ∧ b4 ≤ b' ∧ b' ≤ b4 + 6 * (i : Int)) ⟨ms4, b4, none, none, none, none, none, none, none, none, rfl, (fun _ _ _ _ e => e), hs4, by omega, by omega⟩ (fun i σ H' _ ⟨_, _, _, _, _, _, _, _, _, _, _, kk, _⟩ => SqL.of (kk _ _ Da Dl e4)) ?_ ?_⟩
    · rintro i x σ H5 hi ⟨ms5, b5, v5, v6, v7, v8, v9, v10, v11, v12, rfl, k5, hs5, d1, d2⟩
      have hx : ∃ p, p ∈ ps ∧ x = .ref p := by
        rw [List.getElem?_map] at hi
        cases e : ps[i]? with
        | none =>
          rw [e] at hi
          cases hi
        | some p =>
          rw [e] at hi
          exact ⟨p, List.mem_of_getElem? e, (Option.some.inj hi).symm⟩
      have i5 : i < 5 := by
        have := (List.getElem?_eq_some_iff.mp hi).1
        rw [List.length_map, lp] at this
        exact this
      obtain ⟨p, hp, rfl⟩ := hx
      obtain ⟨⟨xs, ts, row0⟩, offp⟩ := rows4 p hp
      obtain ⟨wts, lts, lxs⟩ := row0.w l2 l3
      have st4 : Stand K C a l tb sm nm ss zs ks H4 := st.but k14 hs off
      have row5 := row0.but k5 hs4
      have offs : ∀ {H' : Hp} {ms' : List Int} {q : Int}, Src H' a l ms' z q → ∀ c, H' c = none → Off a l c := fun hh => hh.off
      refine ⟨_, rfl, _, rfl, p, xs, rfl, .inr row5.sq, _, _, rfl, rfl, a, l, ms5, z, b5, (xs.length : Int) + 1, rfl, hs5, by omega, by omega, by omega, by omega, fun H6 ms6 at_ k6 hs6 p6 q6 => ?_⟩
      have row6 := row5.but k6 hs5
      have few : ∀ lo hi, (cutL ts lo hi).length ≤ 4 := fun lo hi => by
        have := cutL_len ts lo hi
        omega
      refine ⟨_, rfl, _, rfl, at_, rfl, Off a l, ts, 2, row6.dp offp, offs hs6, fun v7 H7 s7 d7 => ?_⟩
      have hs7 := hs6.but s7
      refine ⟨_, rfl, a, l, ms6, z, b5 + 1, rfl, hs7, by omega, by omega, fun H8 ms8 v8' t8 k8 hs8 d8 w8 => ⟨by show 1 ≤ sizeLine; omega, fun p9 o9 hp9 ho9 => ?_⟩⟩
      have d8' : DP K H8 (Off a l) v8' t8 2 := d8.imp fun c e => offs hs7 c e
      have d9 := (DPs.cons d8' .nil).tup (o := o9) hp9 (offs hs8 p9 hp9) ho9
      have s9 := same_upd (o := .frz o9 (.tup [v8'])) hp9
      have hs9 := hs8.but s9
      have k69 : But a l H6 (L2.upd H8 p9 (.frz o9 (.tup [v8']))) := ((But.of_same s7).trans k8).trans (.of_same s9)
      have d7' := (d7.but k8).same s9
      have row9 := row6.but k69 hs6
      generalize L2.upd H8 p9 (.frz o9 (.tup [v8'])) = H9 at s9 hs9 k69 d9 d7' row9 ⊢
      refine ⟨Off a l, _, _, 2, d7', d9, ?_, offs hs9, fun v10' H10 s10 d10 => ?_⟩
      · have := few none (some at_)
        show _ + 1 ≤ sizeLine
        omega
      refine ⟨_, rfl, _, rfl, _, _, rfl, rfl, _, rfl, Off a l, ts, 2, (row9.same s10).dp offp, offs (hs9.but s10), fun v11' H11 s11 d11 => ?_⟩
      have s911 := s10.trans s11
      refine ⟨Off a l, _, _, 2, d10.same s11, d11, ?_, offs (hs9.but s911), fun v12' H12 s12 d12 => ?_⟩
      · have h1 := few none (some at_)
        have h2 := few (some (at_ + 1)) none
        rw [List.length_append]
        show _ + 1 + _ ≤ sizeLine
        omega
      have s912 := s911.trans s12
      have rowA := row9.same s912
      have hsA := hs9.but s912
      have kA : But a l H4 H12 := (k5.trans k6).trans (k69.trans (.of_same s912))
      have wA : (Tr.tup ((cutL ts none (some at_) ++ [t8]) ++ cutL ts (some (at_ + 1)) none)).w ≤ 2000 := by
        have h1 := ws_cut ts none (some at_)
        have h2 := ws_cut ts (some (at_ + 1)) none
        show 3 + ws _ ≤ _
        rw [ws_append, ws_append]
        show 3 + (ws _ + ((t8.w + 2) + 0) + ws _) ≤ _
        omega
      -- the things
      have few2 : ∀ lo hi, (cutL ts lo hi).length ≤ sizeLine := fun lo hi => by
        have := few lo hi
        omega
      have free : ∀ {H' : Hp}, Same H12 H' → ∀ c, H' c = none → Off a l c := fun ss => offs (hsA.but ss)
      have rowD : ∀ {H' : Hp}, Same H12 H' → DP K H' (Off a l) (.ref p) (.tup ts) 3 := fun ss => (rowA.same ss).dp offp
      refine ⟨_, rfl, _, rfl, _, rfl, Off a l, _, ts, 2, rfl, rowD (Same.refl _), free (Same.refl _), fun u1 G1 t1 e1 => ?_⟩
      refine ⟨_, rfl, 1, rfl, Off a l, ts, 2, rowD t1, free t1, fun u2 G2 t2 e2' => ?_⟩
      have t12 := t1.trans t2
      refine ⟨_, rfl, _, rfl, 1, rfl, Off a l, ts, 2, rowD t12, free t12, fun u3 G3 t3 e3 => ?_⟩
      have t13 := t12.trans t3
      refine ⟨Off a l, _, _, 2, rowD t13, e3, ?_, free t13, fun u4 G4 t4 e4' => ?_⟩
      · have := few none (some 1)
        omega
      have t14 := t13.trans t4
      refine ⟨_, rfl, Off a l, ts, 2, rowD t14, free t14, fun u5 G5 t5 e5 => ?_⟩
      have t15 := t14.trans t5
      refine ⟨_, rfl, _, rfl, at_, rfl, Off a l, ts, 2, rowD t15, free t15, fun u6 G6 t6 e6 => ?_⟩
      have t16 := t15.trans t6
      refine ⟨by show 1 ≤ sizeLine; omega, fun p7 o7 hp7 ho7 => ?_⟩
      have e7 := (DPs.cons (DP.bl (K := K) (H := G6) (P := Off a l) (n := 2) true) .nil).tup (o := o7) hp7 (free t16 p7 hp7) ho7
      have t7 := same_upd (o := .frz o7 (.tup [V.bl true])) hp7
      have t17 := t16.trans t7
      generalize L2.upd G6 p7 (.frz o7 (.tup [V.bl true])) = G7 at e7 t7 t17 ⊢
      refine ⟨Off a l, _, _, 2, e6.same t7, e7, ?_, free t17, fun u8 G8 t8' e8 => ?_⟩
      · have := few none (some at_)
        show _ + 1 ≤ sizeLine
        omega
      have t18 := t17.trans t8'
      refine ⟨_, rfl, _, rfl, _, _, rfl, rfl, _, rfl, Off a l, ts, 2, rowD t18, free t18, fun u9 G9 t9 e9 => ?_⟩
      have t19 := t18.trans t9
      refine ⟨Off a l, _, _, 2, e8.same t9, e9, ?_, free t19, fun u10 G10 t10 e10 => ?_⟩
      · have h1 := few none (some at_)
        have h2 := few (some (at_ + 1)) none
        rw [List.length_append]
        show _ + 1 + _ ≤ sizeLine
        omega
      have t110 := t19.trans t10
      refine ⟨_, rfl, by show 1 ≤ sizeLine; omega, fun p11 o11 hp11 ho11 => ⟨by show 8 ≤ sizeLine; omega, fun Z hZ => ?_⟩⟩
      have e11 := (DPs.cons (rowD t110) .nil).tup (o := o11) hp11 (free t110 p11 hp11) ho11
      have t11 := same_upd (o := .frz o11 (.tup [V.ref p])) hp11
      have t111 := t110.trans t11
      have all : DPs K (L2.upd G10 p11 (.frz o11 (.tup [V.ref p]))) (Off a l) [.ref p, v12', u1, u2, u4, u5, u10, .ref p11] _ 4 :=
        .cons ((rowD t111).lvl (by decide)) (.cons ((d12.same t111).lvl (by decide)) (.cons ((((((((((e1.same t2).same t3).same t4).same t5).same t6).same t7).same t8').same t9).same t10 |>.same t11).lvl (by decide))
          (.cons (((((((((e2'.same t3).same t4).same t5).same t6).same t7).same t8').same t9).same t10 |>.same t11).lvl (by decide)) (.cons (((((((e4'.same t5).same t6).same t7).same t8').same t9).same t10 |>.same t11).lvl (by decide))
          (.cons ((((((e5.same t6).same t7).same t8').same t9).same t10 |>.same t11).lvl (by decide)) (.cons ((e10.same t11).lvl (by decide)) (.cons e11 .nil)))))))
      have wall : ∀ t ∈ ([.tup ts, .tup ((cutL ts none (some at_) ++ [t8]) ++ cutL ts (some (at_ + 1)) none), .lst ts, .tup (cutL ts (some 1) none), .tup (ts ++ cutL ts none (some 1)), .tup ts.reverse, .tup ((cutL ts none (some at_) ++ [.bl true]) ++ cutL ts (some (at_ + 1)) none), .tup [.tup ts]] : List Tr), t.w ≤ 2000 := by
        intro t ht
        simp only [List.mem_cons, List.not_mem_nil, or_false] at ht
        have c1 := ws_cut ts none (some at_)
        have c2 := ws_cut ts (some (at_ + 1)) none
        have c3 := ws_cut ts (some 1) none
        have c4 := ws_cut ts none (some 1)
        rcases ht with e | e | e | e | e | e | e | e <;> subst e
        · show 3 + ws ts ≤ 2000
          omega
        · exact wA
        · show 3 + ws ts ≤ 2000
          omega
        · show 3 + ws _ ≤ 2000
          omega
        · show 3 + ws _ ≤ 2000
          rw [ws_append]
          omega
        · show 3 + ws _ ≤ 2000
          rw [ws_rev]
          omega
        · show 3 + ws _ ≤ 2000
          rw [ws_append, ws_append]
          show 3 + (ws _ + ((5 + 2) + 0) + ws _) ≤ 2000
          omega
        · show 3 + ((3 + ws ts + 2) + 0) ≤ 2000
          omega
      generalize ([.tup ts, .tup ((cutL ts none (some at_) ++ [t8]) ++ cutL ts (some (at_ + 1)) none), .lst ts, .tup (cutL ts (some 1) none), .tup (ts ++ cutL ts none (some 1)), .tup ts.reverse, .tup ((cutL ts none (some at_) ++ [.bl true]) ++ cutL ts (some (at_ + 1)) none), .tup [.tup ts]] : List Tr) = tts at all wall
      have lth : ([.ref p, v12', u1, u2, u4, u5, u10, .ref p11] : List V).length = 8 := rfl
      generalize ([.ref p, v12', u1, u2, u4, u5, u10, .ref p11] : List V) = tvs at all lth ⊢
      generalize L2.upd G10 p11 (.frz o11 (.tup [V.ref p])) = G11 at t11 t111 all hZ ⊢
      have sZ := same_upd (o := .lst tvs) hZ
      have hsZ : Src (L2.upd G11 Z (.lst tvs)) a l ms8 z (b5 + 1 + 2) := hsA.but (t111.trans sZ)
      have kZ : But a l H4 (L2.upd G11 Z (.lst tvs)) := kA.trans (.of_same (t111.trans sZ))
      have allZ := all.same sZ
      have eZ : L2.upd G11 Z (.lst tvs) Z = some (.lst tvs) := upd_same
      obtain ⟨Za, Zl⟩ := (hsA.but t111).free hZ
      have rowZ : RowAt (L2.upd G11 Z (.lst tvs)) ss.length zs.length p xs ts := (rowA.same t111).same sZ
      generalize L2.upd G11 Z (.lst tvs) = HZ at hsZ kZ allZ eZ rowZ ⊢
      refine ⟨_, rfl, _, rfl, a, l, ms8, z, b5 + 1 + 2, rfl, hsZ, by omega, by omega, fun HO msO vo to kO hsO dO wO => ⟨_, rfl, by show 2 ≤ sizeLine; omega, fun L hL => ?_⟩⟩
      have eZ2 := kO _ _ Za Zl eZ
      have LZ : Z ≠ L := fun q => by
        rw [← q, eZ2] at hL
        cases hL
      have sL := same_upd (o := .lst [vo, V.ref Wd]) hL
      refine ⟨Z, L, tvs, [vo, V.ref Wd], rfl, rfl, by rw [upd_ne LZ]; exact eZ2, upd_same, by rw [lth]; show 8 + 2 ≤ sizeLine; omega, fun Y hY => ⟨Y, rfl, ⟨_, SqL.of upd_same⟩, ?_⟩⟩
      have sY := same_upd (o := .lst (tvs ++ [vo, V.ref Wd])) hY
      have sLY := sL.trans sY
      have kY : But a l H4 (L2.upd (L2.upd HO L (.lst [vo, V.ref Wd])) Y (.lst (tvs ++ [vo, V.ref Wd]))) := (kZ.trans kO).trans (.of_same sLY)
      have hsY := hsO.but sLY
      have wideY := wide.but kY hs4
      obtain ⟨ww1, ww2, ww3⟩ := wide.w l2 l3
      have allY : DPs K (L2.upd (L2.upd HO L (.lst [vo, V.ref Wd])) Y (.lst (tvs ++ [vo, V.ref Wd]))) (Off a l) (tvs ++ [vo, V.ref Wd]) (tts ++ [to, .tup wt]) 4 :=
        ((allZ.but kO).same sLY).append (.cons (((dO.lvl (by decide)).imp fun c e => offs hsZ c e).same sLY) (.cons ((wideY.dp offW).lvl (by decide)) .nil))
      have wallY : ∀ t ∈ tts ++ [to, .tup wt], t.w ≤ 2000 := by
        intro t ht
        rcases List.mem_append.mp ht with h | h
        · exact wall t h
        · simp only [List.mem_cons, List.not_mem_nil, or_false] at h
          rcases h with e | e <;> subst e
          · omega
          · show 3 + ws wt ≤ 2000
            omega
      have eY : L2.upd (L2.upd HO L (.lst [vo, V.ref Wd])) Y (.lst (tvs ++ [vo, V.ref Wd])) Y = some (.lst (tvs ++ [vo, V.ref Wd])) := upd_same
      have stY := st4.but kY hs4 off
      have rowY := (rowZ.but kO hsZ).same sLY
      generalize tvs ++ [vo, V.ref Wd] = its at allY eY kY hsY wideY stY rowY ⊢
      generalize tts ++ [to, .tup wt] = itt at allY wallY
      generalize L2.upd (L2.upd HO L (.lst [vo, V.ref Wd])) Y (.lst its) = HY at kY hsY wideY allY eY stY rowY ⊢
      refine for_list (K := K) (a := Y) (xs := its) (fun j σ H' => ∃ (v9 v10 v11 : Option V), σ = [some (.ref a), some (.ref tb), some (.ref sm), some (.ref D), some (.ref Wd), some (.ref p), some (.int at_), some v12', some (.ref Z), v9, v10, v11, v12, none] ∧ Same HY H') ⟨v9, v10, v11, rfl, Same.refl HY⟩ (fun j σ H' _ ⟨_, _, _, _, q⟩ => SqL.of (q _ _ eY)) ?_ ?_
      · rintro j y σ HB hj ⟨v9, v10, v11, rfl, sB⟩
        obtain ⟨t, et, dt⟩ := allY.get hj
        have wt := wallY t (List.mem_of_getElem? et)
        have tl := t.text_le
        have blen : ∀ c : Bool, (Tr.bl c).text.length ≤ sizeLine := fun c => by
          have := (Tr.bl c).text_le
          have e : (Tr.bl c).w = 5 := rfl
          omega
        obtain ⟨bs, dd, _⟩ := dt
        refine ⟨_, rfl, y, t, 4, bs, rfl, dd.same sB, by decide, by omega, _, rfl, _, rfl, sm, nm, ss, zs, ks, y, t, 4, bs, rfl, (stY.same sB).a, dd.same sB, fun HC sC => ?_⟩
        have sBC := sB.trans sC
        refine ⟨_, .bl (isRow ss.length zs.length t), 0, [], rfl, .bl _, by decide, blen _, _, _, rfl, ?_⟩
        have stC := stY.same sBC
        obtain ⟨⟨dx, a2, a3, a4, hT, _⟩, _⟩ := stC.t
        refine ⟨_, rfl, tb, dx, _, rfl, hT, rfl, _, rfl, tb, nm, ss, zs, ks, y, t, 4, bs, rfl, stC.t, dd.same sBC, fun HD sD => ⟨_, .bl (isRow ss.length zs.length t), 0, [], rfl, .bl _, by decide, blen _, ?_⟩⟩
        have sBD := sBC.trans sD
        have stD := stY.same sBD
        obtain ⟨⟨dx', a2', a3', a4', hT', _⟩, _⟩ := stD.t
        refine ⟨_, rfl, tb, dx', _, rfl, hT', rfl, _, rfl, tb, nm, ss, zs, ks, y, t, 4, bs, rfl, stD.t, dd.same sBD, fun HE sE => ⟨_, .bl (isRow ss.length zs.length t), 0, [], rfl, .bl _, by decide, blen _, ?_⟩⟩
        have sBE := sBD.trans sE
        refine ⟨_, rfl, y, t, 4, bs, rfl, dd.same sBE, by decide, by omega, by show 3 ≤ sizeLine; omega, fun q1 hq1 => ⟨_, rfl, _, rfl, _, rfl, by show 3 ≤ sizeLine; omega, fun q2 hq2 => ?_⟩⟩
        refine ⟨q1, q2, [(Tr.bl (isRow ss.length zs.length t)).text, (Tr.bl (isRow ss.length zs.length t)).text, t.text], _, rfl, rfl, SqL.of (same_upd hq2 _ _ upd_same), SqL.of upd_same, rfl, _, rfl, ?_⟩
        refine iteF ⟨_, _, _, rfl, (sBE.trans (same_upd hq1)).trans (same_upd hq2)⟩
      · rintro σ HB ⟨v9, v10, v11, rfl, sB⟩
        have eD : HB D = some (.lst (ps.map V.ref)) := sB _ _ (kY _ _ Da Dl e4)
        have hsB := hsY.but sB
        have stB := stY.same sB
        have rowB := rowY.same sB
        have kB : But a l H4 HB := kY.trans (.of_same sB)
        refine ⟨_, rfl, D, rfl, ⟨_, SqL.of eD⟩, for_list (K := K) (a := D) (xs := ps.map V.ref) (fun j σ H' => ∃ (v11 v12 : Option V), σ = [some (.ref a), some (.ref tb), some (.ref sm), some (.ref D), some (.ref Wd), some (.ref p), some (.int at_), some v12', some (.ref Z), v9, v10, v11, v12, none] ∧ Same HB H') ⟨v11, v12, rfl, Same.refl HB⟩ (fun j σ H' _ ⟨_, _, _, q⟩ => SqL.of (q _ _ eD)) ?_ ?_⟩
        · rintro j y σ HC hj ⟨v11, v12, rfl, sC⟩
          have hy : ∃ q, q ∈ ps ∧ y = .ref q := by
            rw [List.getElem?_map] at hj
            cases e : ps[j]? with
            | none =>
              rw [e] at hj
              cases hj
            | some q =>
              rw [e] at hj
              exact ⟨q, List.mem_of_getElem? e, (Option.some.inj hj).symm⟩
          obtain ⟨q, hq, rfl⟩ := hy
          obtain ⟨⟨ys, us, mate0⟩, offq⟩ := rows4 q hq
          obtain ⟨_, _, lys⟩ := mate0.w l2 l3
          have mateC := (mate0.but kB hs4).same sC
          have rowC := rowB.same sC
          have stC := stB.same sC
          have blen : ∀ c : Bool, (Tr.bl c).text.length ≤ sizeLine := fun c => by
            have := (Tr.bl c).text_le
            have e : (Tr.bl c).w = 5 := rfl
            omega
          have eqT : ∀ x : Str, (!decide (V.str x = V.str x)) = false := fun x => by rw [decide_eq_true rfl]; rfl
          refine ⟨_, rfl, _, rfl, _, rfl, sm, p, q, nm, ss, zs, ks, xs, ys, rfl, stC.a, gd, rowC.sq, mateC.sq, lxs, lys, rowC.scal mateC, fun HD sD => ⟨_, .bl (clashB (ss ++ zs) ks xs ys), 0, [], rfl, .bl _, by decide, blen _, ?_⟩⟩
          have stD := stC.same sD
          obtain ⟨⟨dx, a2, a3, a4, hT, _⟩, _⟩ := stD.t
          refine ⟨_, rfl, tb, dx, _, rfl, hT, rfl, _, rfl, _, rfl, tb, p, q, nm, ss, zs, ks, xs, ys, rfl, stD.t, (rowC.same sD).sq, (mateC.same sD).sq, lxs, lys, rowC.scal mateC, fun HE sE => ⟨_, .bl (clashB (ss ++ zs) ks xs ys), 0, [], rfl, .bl _, by decide, blen _, _, rfl, rfl, _, rfl, ?_⟩⟩
          rw [eqT]
          refine iteF ?_
          have sDE := sD.trans sE
          have stE := stC.same sDE
          obtain ⟨⟨dx', a2', a3', a4', hT', _⟩, _⟩ := stE.t
          refine ⟨_, rfl, tb, dx', _, rfl, hT', rfl, _, rfl, _, rfl, tb, q, p, nm, ss, zs, ks, ys, xs, rfl, stE.t, (mateC.same sDE).sq, (rowC.same sDE).sq, lys, lxs, mateC.scal rowC, fun HF sF => ⟨_, .bl (clashB (ss ++ zs) ks ys xs), 0, [], rfl, .bl _, by decide, blen _, _, rfl, rfl, _, rfl, ?_⟩⟩
          rw [clashB_comm, eqT]
          exact iteF ⟨_, _, rfl, (sC.trans sDE).trans sF⟩
        · rintro σ HC ⟨v11, v12, rfl, sC⟩
          exact ⟨msO, b5 + 1 + 2 + 2, _, _, _, _, _, _, _, _, rfl, kB.trans (.of_same sC), hsB.but sC, by omega, by omega⟩
    · rintro σ H5 ⟨ms5, b5, v5, v6, v7, v8, v9, v10, v11, v12, rfl, k5, hs5, d1, d2⟩
      rw [List.length_map] at d2
      exact k H5 ms5 b5 (k14.trans k5) hs5 (by omega) (by omega)
end
end Vm
namespace Vm
open PySem L2
abbrev sEqR : Stmt := top 30
theorem nm_str {K : PySem.W.Frag} {H : Hp} {P : Addr → Prop} {v : V} {t : Tr} {n : Nat} (d : DP K H P v t n) (h : isNm t = true) : ∃ x, v = .str x ∧ t = .str x ∧ nmS x = true := by
  obtain ⟨bs, d, _⟩ := d
  cases d with
  | @str _ x _ _ => exact ⟨x, rfl, rfl, h⟩
  | _ => cases h
theorem nms_tup {K : PySem.W.Frag} {H : Hp} {P : Addr → Prop} {v : V} {t : Tr} {n : Nat} (d : DP K H P v t n) (h : areNms t = true) : ∃ (a : Addr) (ss : List Str), v = .ref a ∧ t = .tup (ss.map Tr.str) ∧ TupE K H a (ss.map V.str) ∧ ss.length ≤ 2 ∧ ss.all nmS = true := by
  obtain ⟨bs, d, _⟩ := d
  exact d.names h
theorem sameS_map : ∀ {ts : List Tr} {ss : List Str}, sameS ts ss = true → ts = ss.map Tr.str
  | [], [], _ => rfl
  | [], z :: s, h => nomatch h
  | t :: r, [], h => nomatch h
  | t :: r, z :: s, h => by
    have h2 : (isS z t && sameS r s) = true := h
    rw [Bool.and_eq_true] at h2
    have ih := sameS_map h2.2
    cases t with
    | str y =>
      have e : y = z := beq_iff_eq.mp h2.1
      rw [ih, e]
      rfl
    | _ => cases h2.1
theorem strs_vals {K : PySem.W.Frag} {H : Hp} {P : Addr → Prop} {n : Nat} : ∀ {vs : List V} {ss : List Str}, DPs K H P vs (ss.map Tr.str) n → vs = ss.map V.str
  | [], [], _ => rfl
  | [], z :: s, d => by
    have := d.length
    simp at this
  | v :: vs, [], d => by
    have := d.length
    simp at this
  | v :: vs, z :: s, ⟨_, .cons (bs := b1) (cs := b2) h r, p⟩ => by
    have e := strs_vals (vs := vs) (ss := s) ⟨b2, r, fun b hb => p b (List.mem_append_right _ hb)⟩
    have h' : Dt K H v (.str z) n b1 := h
    cases h'
    rw [e]
    rfl
theorem TupE.dp {K : PySem.W.Frag} {H : Hp} {P : Addr → Prop} {a : Addr} {ss : List Str} {n : Nat} (h : TupE K H a (ss.map V.str)) (hn : ss.all nmS = true) (hP : ∀ o u, H a = some (.frz o u) → P a) : DP K H P (.ref a) (.tup (ss.map Tr.str)) (n + 1) := by
  rcases h with ⟨e, h⟩ | ⟨o, e, d⟩
  · cases ss with
    | nil => exact ⟨[], .emp h, fun _ h => nomatch h⟩
    | cons _ _ => cases e
  · obtain ⟨bs, r, q⟩ := DPs.nms (K := K) (H := H) (P := fun _ => False) (n := n) hn
    exact ⟨a :: bs, .tup e d r (fun m => q a m), fun c hc => (List.mem_cons.mp hc).elim (fun y => y ▸ hP _ _ e) fun m => (q c m).elim⟩
theorem eqTb_self (nm : Str) (ss zs ks : List Str) : eqTb nm ss zs ks nm ss zs ks = true := by
  unfold eqTb
  rw [decide_eq_true rfl, decide_eq_true rfl, decide_eq_true rfl, decide_eq_true rfl]
  rfl
theorem dsym {α : Type} [DecidableEq α] (x y : α) : decide (x = y) = decide (y = x) := decide_eq_decide.mpr ⟨Eq.symm, Eq.symm⟩
theorem eqTb_comm (nm : Str) (ss zs ks : List Str) (nm' : Str) (ss' zs' ks' : List Str) : eqTb nm' ss' zs' ks' nm ss zs ks = eqTb nm ss zs ks nm' ss' zs' ks' := by
  unfold eqTb
  rw [dsym nm' nm, dsym ss' ss, dsym zs' zs, dsym ks' ks]
theorem DPs.set {K : PySem.W.Frag} {H : Hp} {P : Addr → Prop} {n : Nat} {v : V} {t : Tr} (d : DP K H P v t n) : ∀ {vs : List V} {ts : List Tr} (j : Nat), DPs K H P vs ts n → DPs K H P (vs.set j v) (ts.set j t) n
  | _, _, _, ⟨_, .nil, _⟩ => .nil
  | _ :: _, _ :: _, 0, ⟨_, .cons (bs := bs) (cs := cs) h r, p⟩ => .cons d ⟨cs, r, fun b hb => p b (List.mem_append_right _ hb)⟩
  | _ :: _, _ :: _, j + 1, ⟨_, .cons (bs := bs) (cs := cs) h r, p⟩ => .cons ⟨bs, h, fun b hb => p b (List.mem_append_left _ hb)⟩ (DPs.set d j ⟨cs, r, fun b hb => p b (List.mem_append_right _ hb)⟩)
theorem four {α : Type} : ∀ {xs : List α}, xs.length = 4 → ∃ a b c d, xs = [a, b, c, d]
  | [a, b, c, d], _ => ⟨a, b, c, d, rfl⟩
theorem ixN4 {j : Nat} (h : j < 4) : ixN 4 (j : Int) = some j := by
  unfold ixN
  rw [if_pos (by omega), if_pos (by omega)]
  simp
theorem eqvTb (nm : Str) (ss zs ks : List Str) (nm' : Str) (ss' zs' ks' : List Str) : PyData.eqv (.list [.str nm, .tuple (ss.map PyData.str), .tuple (zs.map PyData.str), .tuple (ks.map PyData.str)]) (.list [.str nm', .tuple (ss'.map PyData.str), .tuple (zs'.map PyData.str), .tuple (ks'.map PyData.str)]) = eqTb nm ss zs ks nm' ss' zs' ks' := by
  show ((nm == nm') && (PyData.eqvAll (ss.map PyData.str) (ss'.map PyData.str) && (PyData.eqvAll (zs.map PyData.str) (zs'.map PyData.str) && (PyData.eqvAll (ks.map PyData.str) (ks'.map PyData.str) && true)))) = _
  rw [eqvStrs, eqvStrs, eqvStrs, Bool.and_true]
  unfold eqTb
  congr 1
theorem shapedTb {nm : Str} {ss zs ks : List Str} (g : Good nm ss zs ks) : SeqAt.shaped (.list [.str nm, .tuple (ss.map PyData.str), .tuple (zs.map PyData.str), .tuple (ks.map PyData.str)]) = true := by
  unfold SeqAt.shaped
  simp only [PyData.canLay0, PyData.canLayAll0, layStrs g.n2, layStrs g.n3, layStrs g.n4, strOk_nm g.n1, PyData.depth, PyData.depthAll, depthStrs]
  rfl
/-- what right arguments are -/
theorem valid_good {K : PySem.W.Frag} {H : Hp} {P : Addr → Prop} {v1 v2 v3 v4 : V} {t1 t2 t3 t4 : Tr} {n : Nat} (d1 : DP K H P v1 t1 n) (d2 : DP K H P v2 t2 n) (d3 : DP K H P v3 t3 n) (d4 : DP K H P v4 t4 n) (h : valid t1 t2 t3 t4 = true) :
    ∃ (nm : Str) (ss zs ks : List Str) (a2 a3 a4 : Addr), v1 = .str nm ∧ v2 = .ref a2 ∧ v3 = .ref a3 ∧ v4 = .ref a4 ∧ t1 = .str nm ∧ t2 = .tup (ss.map Tr.str) ∧ t3 = .tup (zs.map Tr.str) ∧ t4 = .tup (ks.map Tr.str) ∧
      TupE K H a2 (ss.map V.str) ∧ TupE K H a3 (zs.map V.str) ∧ TupE K H a4 (ks.map V.str) ∧ Good nm ss zs ks := by
  unfold valid areCols at h
  simp only [Bool.and_eq_true] at h
  obtain ⟨h1, ⟨h2, h3, hc⟩, hk⟩ := h
  obtain ⟨nm, rfl, rfl, n1⟩ := nm_str d1 h1
  obtain ⟨a2, ss, rfl, rfl, e2, l2, n2⟩ := nms_tup d2 h2
  obtain ⟨a3, zs, rfl, rfl, e3, l3, n3⟩ := nms_tup d3 h3
  rw [strsOf_map, strsOf_map] at hc hk
  have ht : isTup t4 = true := by
    cases t4 <;> first | rfl | cases hk
  obtain ⟨a4, xs, ts, m, rfl, rfl, _, e4, r⟩ := d4.tupD ht
  have hk2 : sameS ts ((ss ++ zs).filter fun z => ts.any (isS z)) = true := hk
  have et := sameS_map hk2
  generalize hks : (ss ++ zs).filter (fun z => ts.any (isS z)) = ks at et
  subst et
  have ex := strs_vals r
  subst ex
  unfold colsOk at hc
  rw [Bool.and_eq_true, decide_eq_true_eq, decide_eq_true_eq] at hc
  have sub : ∀ k ∈ ks, k ∈ ss ++ zs := fun k hk => by
    rw [← hks] at hk
    exact (List.mem_filter.mp hk).1
  have al : (ss ++ zs).all nmS = true := by
    rw [List.all_append, n2, n3]
    rfl
  refine ⟨nm, ss, zs, ks, a2, a3, a4, rfl, rfl, rfl, rfl, rfl, rfl, rfl, rfl, e2, e3, e4, ⟨n1, n2, n3, List.all_eq_true.mpr fun k hk => List.all_eq_true.mp al k (sub k hk), l2, l3, ?_, hc.1, hc.2, sub⟩⟩
  have le : ks.length ≤ (ss ++ zs).length := by
    rw [← hks]
    exact List.length_filter_le _ _
  rw [List.length_append] at le
  omega
theorem passC0 {P : Program} {w : World} {X : Cx} : Passes (L2.CX P w) X E0 := by
  intro pins σ H s e s' I c
  obtain ⟨_, _, _, _, _, _, _, _, _, _, _, _, hE⟩ := c
  exact hE.elim
abbrev rOwn (K : PySem.W.Frag) (C : Addr) : R2 := fun x y H Q => spEqT K C [x, y] H Q E0
abbrev rOwnR (K : PySem.W.Frag) (C : Addr) : R2 := fun x y H Q => ∃ (a : Addr) (nm : Str) (ss zs ks : List Str) (t : Tr) (m : Nat) (bs : List Addr), y = .ref a ∧ Tb K H C a nm ss zs ks ∧ Dt K H x t m bs ∧ calmT t = true ∧ ∀ H', Same H H' → Q (.bl false) H'
def spEqR (K : PySem.W.Frag) (C : Addr) : Sp := fun vs H Q _ => ∃ (s l tb sm : Addr) (ms : List Int) (z b : Int) (nm : Str) (ss zs ks : List Str), vs = [.ref s, .ref tb, .ref sm] ∧ Src H s l ms z b ∧ 0 ≤ b ∧ b < 700000 ∧ Stand K C s l tb sm nm ss zs ks H ∧ Off s l sm ∧ Good nm ss zs ks ∧ valid (.str nm) (.tup (ss.map Tr.str)) (.tup (zs.map Tr.str)) (.tup (ks.map Tr.str)) = true ∧
  ∀ (H' : Hp) (ms' : List Int) (b' : Int), But s l H H' → Src H' s l ms' z b' → b ≤ b' → b' ≤ b + 110 → Q (.bl true) H'
/-- what the written part says of Table's comparing -/
structure TxtQ (K : PySem.W.Frag) (mg : Str → Option Value) (C fE fV fR : Addr) : Prop where
  eq : PySem.W.findIn K (.ref C) "__eq__" = some (some (.ref fE))
  ne : PySem.W.findIn K (.ref C) "__ne__" = some (some (.builtin "object.__ne__"))
  mo : PySem.W.mroIn K C (.type "object") = some true
  fn : PySem.W.isFn K (.ref fE) = true
  nf : ∀ t : Tr, PySem.W.notFirst K C (.type (tyOf t)) = true
  no : ∀ t : Tr, PySem.W.subIn K (.ref C) (.type (tyOf t)) = some false
  gV : mg "_law_valid" = some (.ref fV)
  kV : PySem.W.keepIn K (.ref fV) = true
  gR : mg "_law_right" = some (.ref fR)
  kR : PySem.W.keepIn K (.ref fR) = true
  repr : mg "repr" = none
section
variable {P : Program} {w : World} {K : PySem.W.Frag} {mg : Str → Option Value} {base : Heap} {fD fP fNm fNms fCols fKey C CI fI fE fV fR : Addr}
theorem scEqR : FnScope ["_law_source_here", "_law_table", "_law_some", "_law_same", "_law_place", "_law_twin", "_law_due", "_law_found", "_law_things", "_law_it"] ["_law_source_here", "_law_table", "_law_some"] (defScope sEqR) := ⟨rfl, rfl, rfl, by decide +kernel, rfl, by decide +kernel, by decide +kernel⟩
theorem ok_eqr {f : Addr} {fd fdD fdI fdE fdV fdR : FuncData} (F : Fun K "_law_equal_right" "_law_equal_right" sEqR f fd) (T : TxtL K mg fD fP) (U : TxtT K mg C CI fCols fKey) (W : TxtQ K mg C fE fV fR) (M : Mk K C fI)
    (GD : FnOk P w K mg base CX0 1 fD fdD ["_law_source_here", "_law_many"] spDraw) (bD : Binds K fdD ["_law_source_here", "_law_many"] [])
    (GI : FnOk P w K mg base (L2.CX P w) 4 fI fdI ["self", "name", "names", "numbers", "key"] (spInit K C CI)) (bI : Binds K fdI ["self", "name", "names", "numbers", "key"] [])
    (GE : FnOk P w K mg base CX0 1 fE fdE ["self", "other"] (spEqT K C)) (bE : Binds K fdE ["self", "other"] [])
    (GV : FnOk P w K mg base CX0 4 fV fdV ["_law_source_here"] (spValid K)) (bV : Binds K fdV ["_law_source_here"] [])
    (GR : FnOk P w K mg base CX0 3 fR fdR ["_law_title", "_law_labels", "_law_figures", "_law_picked"] (spRight K)) (bR : Binds K fdR ["_law_title", "_law_labels", "_law_figures", "_law_picked"] []) :
    FnG P w K mg base CX0 6 f fd ["_law_source_here", "_law_table", "_law_some"] (spEqR K C) := by
  refine okG0 F scEqR (fun vs H Q E h => ?_) (fun cdv A outer s H vs Q E ag hr h => ?_)
  · obtain ⟨s, l, tb, sm, ms, z, b, nm, ss, zs, ks, rfl, _⟩ := h
    rfl
  · obtain ⟨a, l, tb, sm, ms, z, b, nm, ss, zs, ks, rfl, hs, b0, b1, st, off, gd, hv, k⟩ := h
    have hr1 : Room 1 _ := hr.mono (by decide)
    have hr2 : Room 2 _ := hr.mono (by decide)
    have hr3 : Room 3 _ := hr.mono (by decide)
    have hr4 : Room 4 _ := hr.mono (by decide)
    have hu : (A.deeper (PyProof.Rows.envOfC "_law_equal_right" (defScope sEqR) s.heap.objs.size f cdv)).units + 16 < cLine := by
      have := hr.units
      omega
    refine ⟨_, pss_cons (ps_par (i := 3) (j := 4) rfl scEqR.nd rfl rfl (by decide) rfl rfl (pa_cons (pe_make M GI hr rfl U.gC bI .nil passC0 (pa_cons (pe_ix ix_list (pv 2) pe_int (fun _ _ => rfl)) (pa_cons (pe_ix ix_list (pv 2) pe_int (fun _ _ => rfl)) (pa_cons (pe_ix ix_list (pv 2) pe_int (fun _ _ => rfl)) (pa_cons (pe_ix ix_list (pv 2) pe_int (fun _ _ => rfl)) pa_nil)))))
          (pa_cons (pe_call GD hr1 rfl T.gD T.kD bD .nil pass0 (pa_cons (pv 0) (pa_cons pe_int pa_nil))) pa_nil)) rfl)
      (pss_cons (ps_if (pt_cmpR op_ne (pe_callB (call_reprT ag hu) (by rfl) W.repr (by decide +kernel) (pa_cons (pe_lst (pa_cons (pe_cmpR (op_eqOwn GE W.eq W.fn bE hr1 W.nf) (pv 1) (pv 3) (nomark _)) (pa_cons (pe_cmpR (op_eqOwn GE W.eq W.fn bE hr1 W.nf) (pv 3) (pv 1) (nomark _))
            (pa_cons (pe_cmpR (op_neOwn GE W.eq W.ne W.mo W.fn bE hr2) (pv 1) (pv 3) (nomark _)) pa_nil)))) pa_nil))
          (pe_callB (call_reprT ag hu) (by rfl) W.repr (by decide +kernel) (pa_cons (pe_lst (pa_cons pe_bl (pa_cons pe_bl (pa_cons pe_bl pa_nil)))) pa_nil)) (nomark _)) (pss_one (ps_ret pe_bl)) pss_nil)
      (pss_cons (ps_set (i := 5) scEqR.nd rfl (Or.inl rfl) (pe_callTy call_list_of (by rfl) T.list (by decide +kernel) (pa_cons (pv 2) pa_nil)))
      (pss_cons (ps_asg (pe_ix ix_list (pe_call GV hr4 rfl W.gV W.kV bV .nil pass0 (pa_cons (pv 0) pa_nil)) (pv 4) (fun _ _ => rfl)) (pg_sub (pv 5) (pv 4) set_list))
      (pss_cons (ps_if (pt_val (pe_call GR hr3 rfl W.gR W.kR bR .nil pass0 (pa_cons (pe_ix ix_list (pv 5) pe_int (fun _ _ => rfl)) (pa_cons (pe_ix ix_list (pv 5) pe_int (fun _ _ => rfl)) (pa_cons (pe_ix ix_list (pv 5) pe_int (fun _ _ => rfl)) (pa_cons (pe_ix ix_list (pv 5) pe_int (fun _ _ => rfl)) pa_nil))))))
          (pss_cons (ps_set (i := 6) scEqR.nd rfl (Or.inl rfl) (pe_cmpR (op_eqD hr.units) (pv 5) (pv 2) (nomark _)))
          (pss_cons (ps_set (i := 7) scEqR.nd rfl (Or.inl rfl) (pe_make M GI hr rfl U.gC bI .nil passC0 (pa_cons (pe_ix ix_list (pv 5) pe_int (fun _ _ => rfl)) (pa_cons (pe_ix ix_list (pv 5) pe_int (fun _ _ => rfl)) (pa_cons (pe_ix ix_list (pv 5) pe_int (fun _ _ => rfl)) (pa_cons (pe_ix ix_list (pv 5) pe_int (fun _ _ => rfl)) pa_nil))))))
          (pss_one (ps_if (pt_cmpR op_ne (pe_callB (call_reprT ag hu) (by rfl) W.repr (by decide +kernel) (pa_cons (pe_lst (pa_cons (pe_cmpR (op_eqOwn GE W.eq W.fn bE hr1 W.nf) (pv 1) (pv 7) (nomark _)) (pa_cons (pe_cmpR (op_eqOwn GE W.eq W.fn bE hr1 W.nf) (pv 7) (pv 1) (nomark _)) pa_nil))) pa_nil))
              (pe_callB (call_reprT ag hu) (by rfl) W.repr (by decide +kernel) (pa_cons (pe_lst (pa_cons (pv 6) (pa_cons (pv 6) pa_nil))) pa_nil)) (nomark _)) (pss_one (ps_ret pe_bl)) pss_nil)))) pss_nil)
      (pss_cons (ps_set (i := 8) scEqR.nd rfl (Or.inl rfl) (pe_lst (pa_cons pe_non (pa_cons (pe_ix ix_list (pv 2) pe_int (fun _ _ => rfl)) (pa_cons (pe_callTy call_tupleF (by rfl) T.tuple (by decide +kernel) (pa_cons (pv 2) pa_nil)) (pa_cons (pv 2) (pa_cons pe_int (pa_cons pe_str (pa_cons (pe_tupF pa_nil) pa_nil)))))))))
      (pss_one (ps_ret (pe_cmpR (op_eqNil hr.units0) (pe_lc (own := [("_law_it", 9)]) (g := gName 9) (tt := tOr (tTest (tOp (rOwn K C) (tVar 1) (tVar 9))) (tTest (tOp (rOwnR K C) (tVar 9) (tVar 1)))) (te := tVar 9) rfl scEqR.nd (pi_list (pv 8))
            (blkOk_by (N := ["_law_source_here", "_law_table", "_law_some", "_law_same", "_law_place", "_law_twin", "_law_due", "_law_found", "_law_things", "_law_it"]) (sc := defScope sEqR) (by decide +kernel))
            (fun _ _ _ _ _ => pg_name (i := 9) scEqR.nd rfl (Or.inl rfl))
            (fun _ _ _ _ _ => by exact (pts_one (PW.pt (pw_or (pt_cmpR (op_eqOwn GE W.eq W.fn bE hr1 W.nf) (pv 1) (pv 9) (nomark _)) (pw_or1 (pt_cmpR (op_eqRight GE W.eq W.fn bE hr1 W.no) (pv 9) (pv 1) (nomark _)))))))
            (fun _ _ _ _ _ => by exact (pv 9))) (pe_lst pa_nil) (nomark _))))))))), ?_⟩
    have big : sizeLine > 100000 := by decide
    have l2 := gd.l2
    have l3 := gd.l3
    have l4 := gd.l4
    obtain ⟨a1, a2, a3, h0, h1, h2, h3⟩ := st.a.ex
    have tl : ∀ t : Tr, t.w ≤ 100000 → t.text.length ≤ sizeLine := fun t h => by
      have := t.text_le
      omega
    have made : ∀ {H0 : Hp} {x dx : Addr}, H0 x = none → H0 dx = none → Same H0 (upd (upd H0 dx (.own x)) x (.ins C dx [])) := fun {H0 x dx} hx hdx b o e => by
      rw [upd_ne (ne_of_none e hx), upd_ne (ne_of_none e hdx)]
      exact e
    obtain ⟨c1, d1, _⟩ := DP.nm (K := K) (H := H) (P := fun _ => True) (n := 1) gd.n1
    obtain ⟨c2, d2, _⟩ := h1.dp (P := fun _ => True) (n := 0) gd.n2 fun _ _ _ => trivial
    obtain ⟨c3, d3, _⟩ := h2.dp (P := fun _ => True) (n := 0) gd.n3 fun _ _ _ => trivial
    obtain ⟨c4, d4, _⟩ := h3.dp (P := fun _ => True) (n := 0) gd.n4 fun _ _ _ => trivial
    refine ⟨_, rfl, sm, _, 0, .str nm, rfl, rfl, SqL.of h0, rfl, _, rfl, sm, _, 1, .ref a1, rfl, rfl, SqL.of h0, rfl, _, rfl, sm, _, 2, .ref a2, rfl, rfl, SqL.of h0, rfl, _, rfl, sm, _, 3, .ref a3, rfl, rfl, SqL.of h0, rfl, fun x dx hx hdx ne => ?_⟩
    have s1 := made hx hdx
    refine ⟨x, dx, .str nm, .ref a1, .ref a2, .ref a3, _, _, _, _, 1, 1, 1, 1, c1, c2, c3, c4, rfl, upd_same, d1.same s1, d2.same s1, d3.same s1, d4.same s1, fun _ H1 k1 e1 => ⟨rfl, ?_⟩, fun z => absurd (hv.symm.trans z) (by decide)⟩
    have s01 : Same H H1 := fun b o q => k1 b o (ne_of_none q hx) (s1 b o q)
    have hs1 := hs.but s01
    have tx1 : Tb K H1 C x nm ss zs ks := ⟨⟨dx, a1, a2, a3, e1, h1.same s01, h2.same s01, h3.same s01⟩, l2, l3, l4⟩
    have st1 := st.same s01
    refine ⟨_, rfl, a, l, ms, z, b, 4, rfl, hs1, by decide, by decide, by omega, by omega, fun H2 ms2 pl k2 hs2 p2 q2 => ⟨_, _, rfl, ?_⟩⟩
    have tx2 := tx1.but k2 hs1
    have st2 := st1.but k2 hs1 off
    have k02 : But a l H H2 := (But.of_same s01).trans k2
    refine ⟨_, rfl, _, rfl, tb, .ref x, nm, ss, zs, ks, rfl, st2.t, .inl ⟨x, nm, ss, zs, ks, rfl, tx2, fun H3 s3 => ?_⟩⟩
    refine ⟨_, rfl, _, rfl, x, .ref tb, nm, ss, zs, ks, rfl, tx2.same s3, .inl ⟨tb, nm, ss, zs, ks, rfl, (st2.same s3).t, fun H4 s4 => ?_⟩⟩
    have s24 := s3.trans s4
    refine ⟨_, rfl, _, rfl, tb, x, nm, ss, zs, ks, nm, ss, zs, ks, rfl, rfl, (st2.same s24).t, tx2.same s24, fun H5 s5 => ⟨by show 3 ≤ sizeLine; omega, fun p hp => ?_⟩⟩
    have s25 := s24.trans s5
    rw [eqTb_self]
    have flags3 : ∀ (b1 b2 b3 : Bool) (H0 : Hp) (p : Addr), H0 p = none → Dt K (upd H0 p (.lst [.bl b1, .bl b2, .bl b3])) (.ref p) (.lst [.bl b1, .bl b2, .bl b3]) 1 [p] := fun b1 b2 b3 H0 p hp => .lst upd_same (.cons (.bl b1) (.cons (.bl b2) (.cons (.bl b3) .nil))) (fun m => nomatch m)
    refine ⟨.ref p, .lst [.bl true, .bl true, .bl (!true)], 1, [p], rfl, flags3 _ _ _ _ _ hp, by decide, tl _ (by decide), by show 3 ≤ sizeLine; omega, fun q hq => ?_⟩
    refine ⟨.ref q, .lst [.bl true, .bl true, .bl false], 1, [q], rfl, flags3 _ _ _ _ _ hq, by decide, tl _ (by decide), rfl, _, rfl, ?_⟩
    have eqT : ∀ x : Str, (!decide (V.str x = V.str x)) = false := fun x => by rw [decide_eq_true rfl]; rfl
    refine iteB (fun e => ?_) (fun e => ?_)
    · exact absurd ((eqT _).symm.trans e) (by decide)
    have s27 := (s25.trans (same_upd (o := .lst [.bl true, .bl true, .bl (!true)]) hp)).trans (same_upd (o := .lst [.bl true, .bl true, .bl false]) hq)
    have k07 := k02.trans (.of_same (s := a) (l := l) s27)
    have hs7 := hs2.but s27
    have st7 := st2.same s27
    have tx7 := tx2.same s27
    show tSeq _ _ _ _ (upd (upd H5 p (.lst [.bl true, .bl true, .bl (!true)])) q (.lst [.bl true, .bl true, .bl false]))
    generalize upd (upd H5 p (.lst [.bl true, .bl true, .bl (!true)])) q (.lst [.bl true, .bl true, .bl false]) = H7 at s27 k07 hs7 st7 tx7 ⊢
    obtain ⟨c1', c2', c3', h0', g1, g2, g3⟩ := st7.a.ex
    have e7 : c1' = a1 ∧ c2' = a2 ∧ c3' = a3 := by
      have z := (k07 _ _ off.1 off.2 h0).symm.trans h0'
      injection z with z
      injection z with z
      simp only [List.cons.injEq, V.ref.injEq] at z
      exact ⟨z.2.1.symm, z.2.2.1.symm, z.2.2.2.1.symm⟩
    obtain ⟨rfl, rfl, rfl⟩ := e7
    refine ⟨_, rfl, sm, _, rfl, .inl (SqL.of h0'), fun t ht => ?_⟩
    obtain ⟨ta, tl'⟩ := hs7.free ht
    have s78 := same_upd (o := .lst [V.str nm, .ref c1', .ref c2', .ref c3']) ht
    have hs8 := hs7.but s78
    have st8 := st7.same s78
    have tx8 := tx7.same s78
    have e8 : upd H7 t (.lst [V.str nm, .ref c1', .ref c2', .ref c3']) t = some (.lst [V.str nm, .ref c1', .ref c2', .ref c3']) := upd_same
    have k08 := k07.trans (.of_same (s := a) (l := l) s78)
    have smt : sm ≠ t := fun q => by
      rw [q, ht] at h0'
      cases h0'
    show tSeq _ _ _ _ (upd H7 t (.lst [V.str nm, .ref c1', .ref c2', .ref c3']))
    generalize upd H7 t (.lst [V.str nm, .ref c1', .ref c2', .ref c3']) = H8 at s78 hs8 st8 tx8 e8 k08 ⊢
    obtain ⟨j, rfl⟩ : ∃ j : Nat, pl = (j : Int) := ⟨pl.toNat, by omega⟩
    have j4 : j < 4 := by omega
    refine ⟨_, rfl, a, l, ms2, z, b + 1, rfl, hs8, by omega, by omega, fun H9 ms9 b9 p us ts k9 hs9 b91 b92 hp e9 dps lu wt => ?_⟩
    have ju : j < us.length := by omega
    have e9t := k9 _ _ ta tl' e8
    obtain ⟨tu, etu, du⟩ := dps.get (List.getElem?_eq_getElem ju)
    refine ⟨_, rfl, p, us, (j : Int), us[j], rfl, rfl, SqL.of e9, atI_nat (List.getElem?_eq_getElem ju), _, rfl, _, rfl, t, _, (j : Int), j, rfl, rfl, e9t, ixN4 j4, ?_⟩
    have st9 := st8.but k9 hs8 off
    have tx9 := tx8.but k9 hs8
    have frz_ne : ∀ c o u, H9 c = some (.frz o u) → c ≠ t := fun c o u e q => by
      rw [q, e9t] at e
      cases e
    have q1 := (g1.same s78).but k9 hs8
    have q2' := (g2.same s78).but k9 hs8
    have q3 := (g3.same s78).but k9 hs8
    have du9 : DP K H9 (fun c => c ≠ t) us[j] tu 1 := du.imp fun c hc q => by
      rw [q] at hc
      rw [hc.1] at e8
      cases e8
    have base : DPs K H9 (fun c => c ≠ t) [V.str nm, .ref c1', .ref c2', .ref c3'] [Tr.str nm, .tup (ss.map Tr.str), .tup (zs.map Tr.str), .tup (ks.map Tr.str)] 1 :=
      .cons (.nm gd.n1) (.cons (q1.dp gd.n2 fun o u e => frz_ne _ o u e) (.cons (q2'.dp gd.n3 fun o u e => frz_ne _ o u e) (.cons (q3.dp gd.n4 fun o u e => frz_ne _ o u e) .nil)))
    have all9 := DPs.set du9 j base
    have lv : ([V.str nm, .ref c1', .ref c2', .ref c3'].set j us[j]).length = 4 := by
      rw [List.length_set]
      rfl
    obtain ⟨w1, w2, w3, w4, ew⟩ := four lv
    obtain ⟨u1, u2, u3, u4, eu⟩ := four (all9.length.symm.trans lv)
    rw [ew, eu] at all9
    rw [ew]
    have sb : ∀ c o, c ≠ t → H9 c = some o → upd H9 t (.lst [w1, w2, w3, w4]) c = some o := fun c o n e => by
      rw [upd_ne n]
      exact e
    have all10 : DPs K (upd H9 t (.lst [w1, w2, w3, w4])) (fun c => c ≠ t) [w1, w2, w3, w4] [u1, u2, u3, u4] 1 := all9.keep fun c o n e => sb c o n e
    have e10 : upd H9 t (.lst [w1, w2, w3, w4]) t = some (.lst [w1, w2, w3, w4]) := upd_same
    have tH : H t = none := by
      cases q : H t with
      | none => rfl
      | some o =>
        rw [k07 t o ta tl' q] at ht
        cases ht
    have k10 : But a l H (upd H9 t (.lst [w1, w2, w3, w4])) := fun c o n1 n2 e => by
      rw [upd_ne fun q => by rw [q, tH] at e; exact nomatch e]
      exact (k08.trans k9) c o n1 n2 e
    have hs10 : Src (upd H9 t (.lst [w1, w2, w3, w4])) a l ms9 z b9 := ⟨by
      rw [upd_ne ta.symm]
      exact hs9.hs, by
      rw [upd_ne tl'.symm]
      exact hs9.hl, hs9.len⟩
    have st10 : Stand K C a l tb sm nm ss zs ks (upd H9 t (.lst [w1, w2, w3, w4])) := st.but k10 hs off
    show tSeq _ _ _ _ (upd H9 t (.lst [w1, w2, w3, w4]))
    generalize upd H9 t (.lst [w1, w2, w3, w4]) = H10 at all10 e10 k10 hs10 st10 ⊢
    obtain ⟨f1, f2, f3, i0, j1, j2, j3⟩ := st10.a.ex
    have gDt : ∀ i v, [w1, w2, w3, w4][i]? = some v → ∃ t', [u1, u2, u3, u4][i]? = some t' ∧ DP K H10 (fun c => c ≠ t) v t' 1 := fun i v e => all10.get e
    obtain ⟨_, y1, D1⟩ := gDt 0 w1 rfl
    obtain ⟨_, y2, D2⟩ := gDt 1 w2 rfl
    obtain ⟨_, y3, D3⟩ := gDt 2 w3 rfl
    obtain ⟨_, y4, D4⟩ := gDt 3 w4 rfl
    cases y1
    cases y2
    cases y3
    cases y4
    obtain ⟨z1, Z1, _⟩ := id D1
    obtain ⟨z2, Z2, _⟩ := id D2
    obtain ⟨z3, Z3, _⟩ := id D3
    obtain ⟨z4, Z4, _⟩ := id D4
    refine ⟨_, rfl, t, _, 0, w1, rfl, rfl, SqL.of e10, rfl, _, rfl, t, _, 1, w2, rfl, rfl, SqL.of e10, rfl, _, rfl, t, _, 2, w3, rfl, rfl, SqL.of e10, rfl, _, rfl, t, _, 3, w4, rfl, rfl, SqL.of e10, rfl, w1, w2, w3, w4, u1, u2, u3, u4, 1, 1, 1, 1, z1, z2, z3, z4, rfl, Z1, Z2, Z3, Z4, fun H11 s11 => ⟨_, rfl, ?_⟩⟩
    have k11 : But a l H H11 := k10.trans (.of_same s11)
    refine iteB (fun ev => ?_) (fun ev => ?_)
    · obtain ⟨nm', ss', zs', ks', b2', b3', b4', rfl, rfl, rfl, rfl, rfl, rfl, rfl, rfl, B2, B3, B4, gd'⟩ := valid_good D1 D2 D3 D4 ev
      have e11 := s11 _ _ e10
      obtain i11 := s11 _ _ i0
      refine ⟨_, rfl, _, rfl, _, _, .lst (SqL.of e11) (.cons (.str nm') (.cons (.tup (B2.same s11).sq (dpStrs K _ ss')) (.cons (.tup (B3.same s11).sq (dpStrs K _ zs')) (.cons (.tup (B4.same s11).sq (dpStrs K _ ks')) .nil)))),
        .lst (SqL.of i11) (.cons (.str nm) (.cons (.tup (j1.same s11).sq (dpStrs K _ ss)) (.cons (.tup (j2.same s11).sq (dpStrs K _ zs)) (.cons (.tup (j3.same s11).sq (dpStrs K _ ks)) .nil)))), shapedTb gd', shapedTb gd, ?_⟩
      rw [eqvTb, eqTb_comm]
      generalize hd : eqTb nm ss zs ks nm' ss' zs' ks' = due
      refine ⟨_, rfl, t, _, 0, .str nm', rfl, rfl, SqL.of e11, rfl, _, rfl, t, _, 1, .ref b2', rfl, rfl, SqL.of e11, rfl, _, rfl, t, _, 2, .ref b3', rfl, rfl, SqL.of e11, rfl, _, rfl, t, _, 3, .ref b4', rfl, rfl, SqL.of e11, rfl, fun x2 dx2 hx2 hdx2 ne2 => ?_⟩
      have r1 := made hx2 hdx2
      have r11 := s11.trans r1
      refine ⟨x2, dx2, .str nm', .ref b2', .ref b3', .ref b4', _, _, _, _, 1, 1, 1, 1, z1, z2, z3, z4, rfl, upd_same, Z1.same r11, Z2.same r11, Z3.same r11, Z4.same r11, fun _ H12 k12 e12 => ⟨rfl, ?_⟩, fun z => absurd (ev.symm.trans z) (by decide)⟩
      have s12 : Same H11 H12 := fun b o q => k12 b o (ne_of_none q hx2) (r1 b o q)
      have s1012 := s11.trans s12
      have ty : Tb K H12 C x2 nm' ss' zs' ks' := ⟨⟨dx2, b2', b3', b4', e12, B2.same s1012, B3.same s1012, B4.same s1012⟩, gd'.l2, gd'.l3, gd'.l4⟩
      have st12 := st10.same s1012
      refine ⟨_, rfl, _, rfl, tb, .ref x2, nm, ss, zs, ks, rfl, st12.t, .inl ⟨x2, nm', ss', zs', ks', rfl, ty, fun H13 s13 => ?_⟩⟩
      refine ⟨_, rfl, _, rfl, x2, .ref tb, nm', ss', zs', ks', rfl, ty.same s13, .inl ⟨tb, nm, ss, zs, ks, rfl, (st12.same s13).t, fun H14 s14 => ⟨by show 2 ≤ sizeLine; omega, fun p3 hp3 => ?_⟩⟩⟩
      rw [eqTb_comm nm ss zs ks nm' ss' zs' ks', hd]
      have flags2 : ∀ (b1 b2 : Bool) (H0 : Hp) (p : Addr), H0 p = none → Dt K (upd H0 p (.lst [.bl b1, .bl b2])) (.ref p) (.lst [.bl b1, .bl b2]) 1 [p] := fun b1 b2 H0 p hp => .lst upd_same (.cons (.bl b1) (.cons (.bl b2) .nil)) (fun m => nomatch m)
      have w2' : ∀ c : Bool, (Tr.lst [.bl c, .bl c]).w ≤ 100000 := fun c => by
        show 3 + ((5 + 2) + ((5 + 2) + 0)) ≤ 100000
        decide
      refine ⟨.ref p3, .lst [.bl due, .bl due], 1, [p3], rfl, flags2 _ _ _ _ hp3, by decide, tl _ (w2' _), _, rfl, _, rfl, by show 2 ≤ sizeLine; omega, fun p4 hp4 => ?_⟩
      refine ⟨.ref p4, .lst [.bl due, .bl due], 1, [p4], rfl, flags2 _ _ _ _ hp4, by decide, tl _ (w2' _), rfl, _, rfl, ?_⟩
      rw [eqT]
      refine iteF ?_
      have sT := (((s12.trans s13).trans s14).trans (same_upd (o := .lst [.bl due, .bl due]) hp3)).trans (same_upd (o := .lst [.bl due, .bl due]) hp4)
      show tSeq _ _ _ _ (upd (upd H14 p3 (.lst [.bl due, .bl due])) p4 (.lst [.bl due, .bl due]))
      generalize upd (upd H14 p3 (.lst [.bl due, .bl due])) p4 (.lst [.bl due, .bl due]) = HU at sT ⊢
      have sU := s11.trans sT
      have iT := sU _ _ i0
      have J1 := j1.same sU
      have J2 := j2.same sU
      have J3 := j3.same sU
      have frzs : ∀ c o u, HU c = some (.frz o u) → c ≠ sm := fun c o u e q => by
        rw [q, iT] at e
        cases e
      have some_ : DPs K HU (fun c => c ≠ sm) [V.str nm, .ref f1, .ref f2, .ref f3] [Tr.str nm, .tup (ss.map Tr.str), .tup (zs.map Tr.str), .tup (ks.map Tr.str)] 1 :=
        .cons (.nm gd.n1) (.cons (J1.dp gd.n2 fun o u e => frzs _ o u e) (.cons (J2.dp gd.n3 fun o u e => frzs _ o u e) (.cons (J3.dp gd.n4 fun o u e => frzs _ o u e) .nil)))
      have smD : DP K HU (fun _ => True) (.ref sm) (.lst [Tr.str nm, .tup (ss.map Tr.str), .tup (zs.map Tr.str), .tup (ks.map Tr.str)]) 2 := by
        obtain ⟨bs, dd, pp⟩ := some_
        exact ⟨sm :: bs, .lst iT dd (fun m => pp sm m rfl), fun _ _ => trivial⟩
      refine ⟨_, rfl, sm, _, 0, .str nm, rfl, rfl, SqL.of iT, rfl, _, rfl, sm, _, rfl, SqL.of iT, fun p5 o5 hp5 ho5 => ⟨_, rfl, Nat.zero_le _, fun p6 o6 hp6 ho6 => ⟨by show 7 ≤ sizeLine; omega, fun p7 hp7 => ?_⟩⟩⟩
      have m5 := same_upd (o := .frz o5 (.tup [V.str nm, .ref f1, .ref f2, .ref f3])) hp5
      have D5 := (some_.imp (Q := fun _ => True) fun _ _ => trivial).tup (o := o5) hp5 trivial ho5
      have m6 := same_upd (o := .frz o6 (.tup [])) hp6
      have D6 := (DPs.nil (K := K) (H := upd HU p5 (.frz o5 (.tup [V.str nm, .ref f1, .ref f2, .ref f3]))) (P := fun _ => True) (n := 1)).tup (o := o6) hp6 trivial ho6
      have m7 := same_upd (o := .lst [V.non, .str nm, .ref p5, .ref sm, .int 0, .str (Str.ofString "table"), .ref p6]) hp7
      have m57 := (m5.trans m6).trans m7
      have things : DPs K (upd (upd (upd HU p5 (.frz o5 (.tup [V.str nm, .ref f1, .ref f2, .ref f3]))) p6 (.frz o6 (.tup []))) p7 (.lst [V.non, .str nm, .ref p5, .ref sm, .int 0, .str (Str.ofString "table"), .ref p6])) (fun _ => True)
          [V.non, .str nm, .ref p5, .ref sm, .int 0, .str (Str.ofString "table"), .ref p6] [Tr.non, .str nm, .tup [Tr.str nm, .tup (ss.map Tr.str), .tup (zs.map Tr.str), .tup (ks.map Tr.str)], .lst [Tr.str nm, .tup (ss.map Tr.str), .tup (zs.map Tr.str), .tup (ks.map Tr.str)], .int 0, .str (Str.ofString "table"), .tup []] 2 :=
        .cons .non (.cons (.nm gd.n1) (.cons ((D5.same m6).same m7) (.cons (smD.same m57) (.cons (.int (by decide)) (.cons (.str (by decide +kernel) (by decide +kernel)) (.cons (D6.same m7) .nil))))))
      have calm : ∀ t' ∈ [Tr.non, .str nm, .tup [Tr.str nm, .tup (ss.map Tr.str), .tup (zs.map Tr.str), .tup (ks.map Tr.str)], .lst [Tr.str nm, .tup (ss.map Tr.str), .tup (zs.map Tr.str), .tup (ks.map Tr.str)], .int 0, .str (Str.ofString "table"), .tup []], calmT t' = true := by
        intro t' ht'
        simp only [List.mem_cons, List.not_mem_nil, or_false] at ht'
        rcases ht' with e | e | e | e | e | e | e <;> subst e <;> rfl
      have e7 : upd (upd (upd HU p5 (.frz o5 (.tup [V.str nm, .ref f1, .ref f2, .ref f3]))) p6 (.frz o6 (.tup []))) p7 (.lst [V.non, .str nm, .ref p5, .ref sm, .int 0, .str (Str.ofString "table"), .ref p6]) p7 = some (.lst [V.non, .str nm, .ref p5, .ref sm, .int 0, .str (Str.ofString "table"), .ref p6]) := upd_same
      have s7 := sU.trans m57
      have stV := st10.same s7
      have kV : But a l H (upd (upd (upd HU p5 (.frz o5 (.tup [V.str nm, .ref f1, .ref f2, .ref f3]))) p6 (.frz o6 (.tup []))) p7 (.lst [V.non, .str nm, .ref p5, .ref sm, .int 0, .str (Str.ofString "table"), .ref p6])) := k10.trans (.of_same s7)
      have hsV := hs10.but s7

      generalize upd (upd (upd HU p5 (.frz o5 (.tup [V.str nm, .ref f1, .ref f2, .ref f3]))) p6 (.frz o6 (.tup []))) p7 (.lst [V.non, .str nm, .ref p5, .ref sm, .int 0, .str (Str.ofString "table"), .ref p6]) = HV at things e7 stV kV hsV ⊢
      refine ⟨_, rfl, p7, rfl, ⟨_, SqL.of e7⟩, fun D hD => ?_⟩
      refine lc_list (K := K) (a := p7) (xs := [V.non, .str nm, .ref p5, .ref sm, .int 0, .str (Str.ofString "table"), .ref p6]) (fun _ H' => Same HV H' ∧ H' D = some (.lst [])) ⟨same_upd hD, upd_same⟩ (fun _ H' _ q => SqL.of (q.1 _ _ e7)) ?_ ?_
      · rintro i y HW hi ⟨sW, eW⟩
        obtain ⟨t', et', dt'⟩ := things.get hi
        have ct := calm t' (List.mem_of_getElem? et')
        obtain ⟨bs', dd, _⟩ := dt'
        refine ⟨rfl, _, rfl, _, rfl, tb, y, nm, ss, zs, ks, rfl, (stV.same sW).t, .inr ⟨t', 2, bs', dd.same sW, fun HX sX => ⟨_, rfl, ?_⟩⟩⟩
        have sWX := sW.trans sX
        refine iteF ⟨_, rfl, _, rfl, tb, nm, ss, zs, ks, t', 2, bs', rfl, (stV.same sWX).t, dd.same sWX, ct, fun HY sY => ⟨_, rfl, ?_⟩⟩
        exact iteF ⟨sWX.trans sY, sY _ _ (sX _ _ eW)⟩
      · rintro HW ⟨sW, eW⟩
        refine ⟨Nat.zero_le _, fun p8 hp8 => ⟨D, p8, [], rfl, rfl, SqL.of (same_upd hp8 _ _ eW), SqL.of upd_same, ?_⟩⟩
        have sZ := sW.trans (same_upd (o := .lst []) hp8)
        exact k _ ms9 b9 (kV.trans (.of_same sZ)) (hsV.but sZ) (by omega) (by omega)
    · have sT := Same.refl H11
      show tSeq _ _ _ _ H11
      generalize hHU : H11 = HU at sT ⊢
      have sT : Same H11 HU := by
        rw [hHU]
        exact Same.refl HU
      have sU := s11.trans sT
      have iT := sU _ _ i0
      have J1 := j1.same sU
      have J2 := j2.same sU
      have J3 := j3.same sU
      have frzs : ∀ c o u, HU c = some (.frz o u) → c ≠ sm := fun c o u e q => by
        rw [q, iT] at e
        cases e
      have some_ : DPs K HU (fun c => c ≠ sm) [V.str nm, .ref f1, .ref f2, .ref f3] [Tr.str nm, .tup (ss.map Tr.str), .tup (zs.map Tr.str), .tup (ks.map Tr.str)] 1 :=
        .cons (.nm gd.n1) (.cons (J1.dp gd.n2 fun o u e => frzs _ o u e) (.cons (J2.dp gd.n3 fun o u e => frzs _ o u e) (.cons (J3.dp gd.n4 fun o u e => frzs _ o u e) .nil)))
      have smD : DP K HU (fun _ => True) (.ref sm) (.lst [Tr.str nm, .tup (ss.map Tr.str), .tup (zs.map Tr.str), .tup (ks.map Tr.str)]) 2 := by
        obtain ⟨bs, dd, pp⟩ := some_
        exact ⟨sm :: bs, .lst iT dd (fun m => pp sm m rfl), fun _ _ => trivial⟩
      refine ⟨_, rfl, sm, _, 0, .str nm, rfl, rfl, SqL.of iT, rfl, _, rfl, sm, _, rfl, SqL.of iT, fun p5 o5 hp5 ho5 => ⟨_, rfl, Nat.zero_le _, fun p6 o6 hp6 ho6 => ⟨by show 7 ≤ sizeLine; omega, fun p7 hp7 => ?_⟩⟩⟩
      have m5 := same_upd (o := .frz o5 (.tup [V.str nm, .ref f1, .ref f2, .ref f3])) hp5
      have D5 := (some_.imp (Q := fun _ => True) fun _ _ => trivial).tup (o := o5) hp5 trivial ho5
      have m6 := same_upd (o := .frz o6 (.tup [])) hp6
      have D6 := (DPs.nil (K := K) (H := upd HU p5 (.frz o5 (.tup [V.str nm, .ref f1, .ref f2, .ref f3]))) (P := fun _ => True) (n := 1)).tup (o := o6) hp6 trivial ho6
      have m7 := same_upd (o := .lst [V.non, .str nm, .ref p5, .ref sm, .int 0, .str (Str.ofString "table"), .ref p6]) hp7
      have m57 := (m5.trans m6).trans m7
      have things : DPs K (upd (upd (upd HU p5 (.frz o5 (.tup [V.str nm, .ref f1, .ref f2, .ref f3]))) p6 (.frz o6 (.tup []))) p7 (.lst [V.non, .str nm, .ref p5, .ref sm, .int 0, .str (Str.ofString "table"), .ref p6])) (fun _ => True)
          [V.non, .str nm, .ref p5, .ref sm, .int 0, .str (Str.ofString "table"), .ref p6] [Tr.non, .str nm, .tup [Tr.str nm, .tup (ss.map Tr.str), .tup (zs.map Tr.str), .tup (ks.map Tr.str)], .lst [Tr.str nm, .tup (ss.map Tr.str), .tup (zs.map Tr.str), .tup (ks.map Tr.str)], .int 0, .str (Str.ofString "table"), .tup []] 2 :=
        .cons .non (.cons (.nm gd.n1) (.cons ((D5.same m6).same m7) (.cons (smD.same m57) (.cons (.int (by decide)) (.cons (.str (by decide +kernel) (by decide +kernel)) (.cons (D6.same m7) .nil))))))
      have calm : ∀ t' ∈ [Tr.non, .str nm, .tup [Tr.str nm, .tup (ss.map Tr.str), .tup (zs.map Tr.str), .tup (ks.map Tr.str)], .lst [Tr.str nm, .tup (ss.map Tr.str), .tup (zs.map Tr.str), .tup (ks.map Tr.str)], .int 0, .str (Str.ofString "table"), .tup []], calmT t' = true := by
        intro t' ht'
        simp only [List.mem_cons, List.not_mem_nil, or_false] at ht'
        rcases ht' with e | e | e | e | e | e | e <;> subst e <;> rfl
      have e7 : upd (upd (upd HU p5 (.frz o5 (.tup [V.str nm, .ref f1, .ref f2, .ref f3]))) p6 (.frz o6 (.tup []))) p7 (.lst [V.non, .str nm, .ref p5, .ref sm, .int 0, .str (Str.ofString "table"), .ref p6]) p7 = some (.lst [V.non, .str nm, .ref p5, .ref sm, .int 0, .str (Str.ofString "table"), .ref p6]) := upd_same
      have s7 := sU.trans m57
      have stV := st10.same s7
      have kV : But a l H (upd (upd (upd HU p5 (.frz o5 (.tup [V.str nm, .ref f1, .ref f2, .ref f3]))) p6 (.frz o6 (.tup []))) p7 (.lst [V.non, .str nm, .ref p5, .ref sm, .int 0, .str (Str.ofString "table"), .ref p6])) := k10.trans (.of_same s7)
      have hsV := hs10.but s7

      generalize upd (upd (upd HU p5 (.frz o5 (.tup [V.str nm, .ref f1, .ref f2, .ref f3]))) p6 (.frz o6 (.tup []))) p7 (.lst [V.non, .str nm, .ref p5, .ref sm, .int 0, .str (Str.ofString "table"), .ref p6]) = HV at things e7 stV kV hsV ⊢
      refine ⟨_, rfl, p7, rfl, ⟨_, SqL.of e7⟩, fun D hD => ?_⟩
      refine lc_list (K := K) (a := p7) (xs := [V.non, .str nm, .ref p5, .ref sm, .int 0, .str (Str.ofString "table"), .ref p6]) (fun _ H' => Same HV H' ∧ H' D = some (.lst [])) ⟨same_upd hD, upd_same⟩ (fun _ H' _ q => SqL.of (q.1 _ _ e7)) ?_ ?_
      · rintro i y HW hi ⟨sW, eW⟩
        obtain ⟨t', et', dt'⟩ := things.get hi
        have ct := calm t' (List.mem_of_getElem? et')
        obtain ⟨bs', dd, _⟩ := dt'
        refine ⟨rfl, _, rfl, _, rfl, tb, y, nm, ss, zs, ks, rfl, (stV.same sW).t, .inr ⟨t', 2, bs', dd.same sW, fun HX sX => ⟨_, rfl, ?_⟩⟩⟩
        have sWX := sW.trans sX
        refine iteF ⟨_, rfl, _, rfl, tb, nm, ss, zs, ks, t', 2, bs', rfl, (stV.same sWX).t, dd.same sWX, ct, fun HY sY => ⟨_, rfl, ?_⟩⟩
        exact iteF ⟨sWX.trans sY, sY _ _ (sX _ _ eW)⟩
      · rintro HW ⟨sW, eW⟩
        refine ⟨Nat.zero_le _, fun p8 hp8 => ⟨D, p8, [], rfl, rfl, SqL.of (same_upd hp8 _ _ eW), SqL.of upd_same, ?_⟩⟩
        have sZ := sW.trans (same_upd (o := .lst []) hp8)
        exact k _ ms9 b9 (kV.trans (.of_same sZ)) (hsV.but sZ) (by omega) (by omega)
end
end Vm
namespace Vm
open PySem L2
abbrev sTabR : Stmt := top 31
/-- the defs that are called -/
structure Calls (K : PySem.W.Frag) (mg : Str → Option Value) (x : Str) (f : Addr) : Prop where
  g : mg x = some (.ref f)
  k : PySem.W.keepIn K (.ref f) = true
def spTabR (K : PySem.W.Frag) : Sp := fun vs H Q _ => ∃ (s l sm : Addr) (ms : List Int) (z b : Int) (v1 v2 v3 v4 : V) (t1 t2 t3 t4 : Tr), vs = [.ref s, .ref sm] ∧ Src H s l ms z b ∧ 0 ≤ b ∧ b < 600000 ∧ H sm = some (.lst [v1, v2, v3, v4]) ∧ Off s l sm ∧
  DPs K H (fun c => Off s l c ∧ c ≠ sm) [v1, v2, v3, v4] [t1, t2, t3, t4] 3 ∧ (∀ t ∈ [t1, t2, t3, t4], t.w ≤ 10000) ∧
  ∀ (H' : Hp) (ms' : List Int) (b' : Int), But s l H H' → Src H' s l ms' z b' → b ≤ b' → b' ≤ b + 450 → Q (.bl true) H'
section
variable {P : Program} {w : World} {K : PySem.W.Frag} {mg : Str → Option Value} {base : Heap} {fNm fNms fCols fKey C CI fR fH fW fE pC gC : Addr}
theorem scTabR : FnScope ["_law_source_here", "_law_some", "_law_kept", "_law_is_right", "_law_by_name", "_law_table", "_law_found"] ["_law_source_here", "_law_some"] (defScope sTabR) := ⟨rfl, rfl, rfl, by decide +kernel, rfl, by decide +kernel, by decide +kernel⟩
theorem ok_tabr {f : Addr} {fd fdR fdH fdW fdE fdG : FuncData} (F : Fun K "_law_table_right" "_law_table_right" sTabR f fd) (N : TxtP K mg fNm fNms) (U : TxtT K mg C CI fCols fKey) (O : TxtO K C) (rp : mg "repr" = none)
    (cR : Calls K mg "_law_right" fR) (GR : FnOk P w K mg base CX0 3 fR fdR ["_law_title", "_law_labels", "_law_figures", "_law_picked"] (spRight K)) (bR : Binds K fdR ["_law_title", "_law_labels", "_law_figures", "_law_picked"] [])
    (cH : Calls K mg "_law_heard" fH) (GH : FnOk P w K mg base CX0 6 fH fdH ["_law_some", "_law_by_name"] (spHeard K C)) (bH : Binds K fdH ["_law_some", "_law_by_name"] [])
    (cW : Calls K mg "_law_rows_right" fW) (GW : FnG P w K mg base CX0 4 fW fdW ["_law_source_here", "_law_table", "_law_some"] (spRowsR K C)) (bW : Binds K fdW ["_law_source_here", "_law_table", "_law_some"] [])
    (cE : Calls K mg "_law_equal_right" fE) (GE : FnG P w K mg base CX0 6 fE fdE ["_law_source_here", "_law_table", "_law_some"] (spEqR K C)) (bE : Binds K fdE ["_law_source_here", "_law_table", "_law_some"] [])
    (pp : PropOf K C "columns" pC gC) (GG : FnOk P w K mg base CX0 1 gC fdG ["self"] (spColumns K C)) (bG : Binds K fdG ["self"] []) :
    FnG P w K mg base CX0 7 f fd ["_law_source_here", "_law_some"] (spTabR K) := by
  refine okG0 F scTabR (fun vs H Q E h => ?_) (fun cdv A outer s H vs Q E ag hr h => ?_)
  · obtain ⟨s, l, sm, ms, z, b, v1, v2, v3, v4, t1, t2, t3, t4, rfl, _⟩ := h
    rfl
  · obtain ⟨a, l, sm, ms, z, b, v1, v2, v3, v4, t1, t2, t3, t4, rfl, hs, b0, b1, h0, off, dps, wts, k⟩ := h
    have hr1 : Room 1 _ := hr.mono (by decide)
    have hr3 : Room 3 _ := hr.mono (by decide)
    have hr4 : Room 4 _ := hr.mono (by decide)
    have hu : (A.deeper (PyProof.Rows.envOfC "_law_table_right" (defScope sTabR) s.heap.objs.size f cdv)).units + 16 < cLine := by
      have := hr.units
      omega
    refine ⟨_, pss_cons (ps_par (i := 2) (j := 3) rfl scTabR.nd rfl rfl (by decide) rfl rfl (pa_cons (pe_callB (call_reprT ag hu) (by rfl) rp (by decide +kernel) (pa_cons (pv 1) pa_nil))
          (pa_cons (pe_call GR hr3 rfl cR.g cR.k bR .nil pass0 (pa_cons (pe_ix ix_list (pv 1) pe_int (fun _ _ => rfl)) (pa_cons (pe_ix ix_list (pv 1) pe_int (fun _ _ => rfl)) (pa_cons (pe_ix ix_list (pv 1) pe_int (fun _ _ => rfl)) (pa_cons (pe_ix ix_list (pv 1) pe_int (fun _ _ => rfl)) pa_nil))))) pa_nil)) rfl)
      (pss_cons (ps_for PassesOwn.never rfl (pi_tup (pe_tupF (pa_cons pe_bl (pa_cons pe_bl pa_nil)))) (pg_name (i := 4) scTabR.nd rfl (Or.inl rfl))
        (pss_cons (ps_set (i := 5) scTabR.nd rfl (Or.inl rfl) (pe_call GH hr rfl cH.g cH.k bH .nil pass0 (pa_cons (pv 1) (pa_cons (pv 4) pa_nil))))
        (pss_cons (ps_if (PW.pt (pw_or (PW.pt (pw_and (pt_not (pt_val (pv 3))) (pw_and1 (pt_cmpR op_notN (pv 5) pe_non (nomark _))))) (pw_or1 (PW.pt (pw_and (pt_val (pv 3))
              (pw_and1 (pt_not (pt_val (pe_callB call_isi (by rfl) N.isi (by decide +kernel) (pa_cons (pv 5) (pa_cons (pe_glob (v := .ref C) rfl U.gC rfl) pa_nil)))))))))))
            (pss_one (ps_ret pe_bl)) pss_nil)
        (pss_one (ps_if (pt_val (pv 3))
          (pss_cons (ps_set (i := 6) scTabR.nd rfl (Or.inl rfl) (pe_lst (pa_cons (pe_fld (pv 5) rfl) (pa_cons (pe_fld (pv 5) rfl) (pa_cons (pe_fld (pv 5) rfl) (pa_cons (pe_fld (pv 5) rfl) pa_nil))))))
          (pss_cons (ps_if (PW.pt (pw_or (pt_cmpR op_ne (pe_callB (call_reprT ag hu) (by rfl) rp (by decide +kernel) (pa_cons (pv 6) pa_nil)) (pv 2) (nomark _))
                (pw_or1 (pt_cmpR op_ne (pe_callB (call_reprT ag hu) (by rfl) rp (by decide +kernel) (pa_cons (pe_prop (pv 5) U.cl pp GG (hr.mono (by decide)) bG .nil pass0 rfl) pa_nil))
                  (pe_callB (call_reprT ag hu) (by rfl) rp (by decide +kernel) (pa_cons (pe_op op_catE (pe_ix ix_list (pv 1) pe_int (fun _ _ => rfl)) (pe_ix ix_list (pv 1) pe_int (fun _ _ => rfl))) pa_nil)) (nomark _)))))
              (pss_one (ps_ret pe_bl)) pss_nil)
          (pss_one (ps_if (PW.pt (pw_or (pt_not (pt_val (pe_callG GW ag hr4 rfl cW.g cW.k bW (pa_cons (pv 0) (pa_cons (pv 5) (pa_cons (pv 1) pa_nil))))))
                (pw_or1 (pt_not (pt_val (pe_callG GE ag hr rfl cE.g cE.k bE (pa_cons (pv 0) (pa_cons (pv 5) (pa_cons (pv 1) pa_nil)))))))))
              (pss_one (ps_ret pe_bl)) pss_nil)))) pss_nil)))))
      (pss_one (ps_ret (pe_cmpR op_eq (pe_callB (call_reprT ag hu) (by rfl) rp (by decide +kernel) (pa_cons (pv 1) pa_nil)) (pv 2) (nomark _))))), ?_⟩
    have big : sizeLine > 100000 := by decide
    have keepP : ∀ {H' : Hp}, But a l H H' → DPs K H' (fun c => Off a l c ∧ c ≠ sm) [v1, v2, v3, v4] [t1, t2, t3, t4] 3 := fun {H'} kk => dps.keep fun c o p e => kk c o p.1.1 p.1.2 e
    have smD : ∀ {H' : Hp}, But a l H H' → ∃ bs, Dt K H' (.ref sm) (.lst [t1, t2, t3, t4]) 4 bs := fun {H'} kk => by
      obtain ⟨bs, dd, pp⟩ := keepP kk
      exact ⟨sm :: bs, .lst (kk _ _ off.1 off.2 h0) dd (fun m => (pp sm m).2 rfl)⟩
    have wl : (Tr.lst [t1, t2, t3, t4]).text.length ≤ sizeLine := by
      have h1 := wts t1 (by simp)
      have h2 := wts t2 (by simp)
      have h3 := wts t3 (by simp)
      have h4 := wts t4 (by simp)
      have e := (Tr.lst [t1, t2, t3, t4]).text_le
      have e2 : (Tr.lst [t1, t2, t3, t4]).w = 3 + ((t1.w + 2) + ((t2.w + 2) + ((t3.w + 2) + ((t4.w + 2) + 0)))) := rfl
      omega
    have at_ : ∀ {H' : Hp}, But a l H H' → H' sm = some (.lst [v1, v2, v3, v4]) := fun {H'} kk => kk _ _ off.1 off.2 h0
    have k00 : But a l H H := fun _ _ _ _ e => e
    obtain ⟨bsm, dsm⟩ := smD k00
    have gD : ∀ i v, [v1, v2, v3, v4][i]? = some v → ∃ t', [t1, t2, t3, t4][i]? = some t' ∧ DP K H (fun c => Off a l c ∧ c ≠ sm) v t' 3 := fun i v e => dps.get e
    obtain ⟨_, y1, D1⟩ := gD 0 v1 rfl
    obtain ⟨_, y2, D2⟩ := gD 1 v2 rfl
    obtain ⟨_, y3, D3⟩ := gD 2 v3 rfl
    obtain ⟨_, y4, D4⟩ := gD 3 v4 rfl
    cases y1
    cases y2
    cases y3
    cases y4
    obtain ⟨c1, E1, p1⟩ := id D1
    obtain ⟨c2, E2, p2⟩ := id D2
    obtain ⟨c3, E3, p3⟩ := id D3
    obtain ⟨c4, E4, p4⟩ := id D4
    have q0 : SqL K H sm [v1, v2, v3, v4] := SqL.of h0
    refine ⟨_, rfl, .ref sm, _, 4, bsm, rfl, dsm, by decide, wl, _, rfl, sm, _, 0, v1, rfl, rfl, q0, rfl, _, rfl, sm, _, 1, v2, rfl, rfl, q0, rfl, _, rfl, sm, _, 2, v3, rfl, rfl, q0, rfl, _, rfl, sm, _, 3, v4, rfl, rfl, q0, rfl, v1, v2, v3, v4, t1, t2, t3, t4, 3, 3, 3, 3, c1, c2, c3, c4, rfl, E1, E2, E3, E4, fun H1 s1 => ⟨_, _, rfl, ?_⟩⟩
    have k1 : But a l H H1 := .of_same s1
    have hs1 := hs.but s1
    refine ⟨by show 2 ≤ sizeLine; omega, fun p o hp ho => ⟨p, rfl, ⟨_, .inl (.inr ⟨o, upd_same⟩)⟩, ?_⟩⟩
    have s2 := same_upd (o := .frz o (.tup [V.bl false, .bl true])) hp
    have k2 : But a l H (upd H1 p (.frz o (.tup [V.bl false, .bl true]))) := .of_same (s1.trans s2)
    have hs2 := hs1.but s2
    have e2 : upd H1 p (.frz o (.tup [V.bl false, .bl true])) p = some (.frz o (.tup [V.bl false, .bl true])) := upd_same
    obtain ⟨pa, pl⟩ := hs1.free hp
    generalize upd H1 p (.frz o (.tup [V.bl false, .bl true])) = H2 at k2 hs2 e2 ⊢
    generalize hvd : valid t1 t2 t3 t4 = vd
    refine for_tup (K := K) (a := p) (xs := [V.bl false, .bl true]) (fun i σ H' => ∃ (ms' : List Int) (b' : Int) (v4' v5 v6 : Option V), σ = [some (.ref a), some (.ref sm), some (.str (Tr.lst [t1, t2, t3, t4]).text), some (.bl vd), v4', v5, v6] ∧ But a l H2 H' ∧ Src H' a l ms' z b' ∧ b ≤ b' ∧ b' ≤ b + 210 * (i : Int))
      ⟨ms, b, none, none, none, rfl, (fun _ _ _ _ e => e), hs2, by omega, by omega⟩ (fun i σ H' _ ⟨_, _, _, _, _, _, kk, _⟩ => .inl (.inr ⟨o, kk _ _ pa pl e2⟩)) ?_ ?_
    · rintro i y σ H3 hi ⟨ms3, b3, v4', v5, v6, rfl, k3, hs3, d1, d2⟩
      have k23 := k2.trans k3
      have i2 : i < 2 := (List.getElem?_eq_some_iff.mp hi).1
      obtain ⟨fl, rfl⟩ : ∃ fl, y = .bl fl := by
        have m := List.mem_of_getElem? hi
        simp only [List.mem_cons, List.not_mem_nil, or_false] at m
        rcases m with e | e
        · exact ⟨_, e⟩
        · exact ⟨_, e⟩
      have h3 := at_ k23
      have base3 := keepP k23
      have keep1 : ∀ {v : V} {t : Tr} {bs : List Addr} {n : Nat}, Dt K H v t n bs → (∀ c ∈ bs, Off a l c ∧ c ≠ sm) → Dt K H3 v t n bs := fun d p => d.keep fun c hc o e => k23 c o (p c hc).1.1 (p c hc).1.2 e
      refine ⟨_, rfl, _, rfl, sm, v1, v2, v3, v4, t1, t2, t3, t4, 3, 3, 3, 3, c1, c2, c3, c4, fl, rfl, h3, keep1 E1 p1, keep1 E2 p2, keep1 E3 p3, keep1 E4 p4, fun hv H4 tb dx s4 hn e4 => ?_, fun hv H4 s4 => ?_⟩
      · rw [hvd] at hv
        subst hv
        obtain ⟨nm, ss, zs, ks, a2, a3, a4, rfl, rfl, rfl, rfl, rfl, rfl, rfl, rfl, T2, T3, T4, gd⟩ := valid_good D1 D2 D3 D4 hvd
        have k24 := k23.trans (.of_same (s := a) (l := l) s4)
        have hs4 := hs3.but s4
        have T2' := T2.but k24 hs
        have T3' := T3.but k24 hs
        have T4' := T4.but k24 hs
        have tbT : Tb K H4 C tb nm ss zs ks := ⟨⟨dx, a2, a3, a4, e4, T2', T3', T4'⟩, gd.l2, gd.l3, gd.l4⟩
        have st4 : Stand K C a l tb sm nm ss zs ks H4 := ⟨tbT, ⟨a2, a3, a4, at_ k24, T2', T3', T4'⟩⟩
        refine ⟨_, rfl, _, rfl, ?_⟩
        refine iteF (iteF ?_)
        refine ⟨_, rfl, _, rfl, ?_⟩
        refine iteT ⟨_, rfl, .ref tb, _, _, _, true, rfl, .own _, .base (.ins e4 U.cl O.ca O.cn O.ct O.mo), O.kC, _, rfl, ?_⟩
        refine iteF ?_
        refine ⟨_, rfl, _, rfl, iteT ?_⟩
        refine ⟨_, rfl, tb, C, dx, _, _, rfl, e4, U.cl, U.n1, rfl, _, rfl, tb, C, dx, _, _, rfl, e4, U.cl, U.n2, rfl, _, rfl, tb, C, dx, _, _, rfl, e4, U.cl, U.n3, rfl, _, rfl, tb, C, dx, _, _, rfl, e4, U.cl, U.n4, rfl, by show 4 ≤ sizeLine; omega, fun q hq => ?_⟩
        have s5 := same_upd (o := .lst [V.str nm, .ref a2, .ref a3, .ref a4]) hq
        have eqT : ∀ x : Str, (!decide (V.str x = V.str x)) = false := fun x => by rw [decide_eq_true rfl]; rfl
        obtain ⟨bq, dq, _⟩ := ((keepP k24).imp (Q := fun _ => True) fun _ _ => trivial).lst hq trivial
        refine ⟨_, rfl, .ref q, _, 4, bq, rfl, dq, by decide, wl, _, rfl, rfl, _, rfl, ?_⟩
        refine if_as (eqT _) (iteF ?_)
        have k25 := k24.trans (.of_same (s := a) (l := l) s5)
        have hs5 := hs4.but s5
        have st5 := st4.same s5
        have nmsA : (ss ++ zs).all nmS = true := by
          rw [List.all_append, gd.n2, gd.n3]
          rfl
        have lw : (Tr.tup ((ss ++ zs).map Tr.str)).text.length ≤ sizeLine := by
          have e := (Tr.tup ((ss ++ zs).map Tr.str)).text_le
          have e2 : (Tr.tup ((ss ++ zs).map Tr.str)).w = 3 + ws ((ss ++ zs).map Tr.str) := rfl
          have e3 := ws_nms nmsA
          have e4 := gd.l2
          have e5 := gd.l3
          rw [List.length_append] at e3
          omega
        refine ⟨_, rfl, tb, dx, _, rfl, s5 _ _ e4, tb, nm, ss, zs, ks, rfl, st5.t, fun q1 H6 s6 hq1 => ?_⟩
        obtain ⟨bq1, dq1, _⟩ := hq1.dp (P := fun _ => True) (n := 0) nmsA fun _ _ _ => trivial
        have st6 := st5.same s6
        obtain ⟨i1, i2', i3, i0, J1, J2, J3⟩ := st6.a.ex
        refine ⟨.ref q1, _, 1, bq1, rfl, dq1, by decide, lw, _, rfl, sm, _, 1, .ref i1, rfl, rfl, SqL.of i0, rfl, _, rfl, sm, _, 2, .ref i2', rfl, rfl, SqL.of i0, rfl, i1, i2', _, _, rfl, rfl, J1, J2, ?_, fun q2 H7 s7 hq2 _ => ?_⟩
        · have e4 := gd.l2
          have e5 := gd.l3
          rw [List.length_map, List.length_map]
          omega
        rw [← List.map_append] at hq2
        obtain ⟨bq2, dq2, _⟩ := hq2.dp (P := fun _ => True) (n := 0) nmsA fun _ _ _ => trivial
        refine ⟨.ref q2, _, 1, bq2, rfl, dq2, by decide, lw, rfl, _, rfl, ?_⟩
        refine if_as (eqT _) (iteF ?_)
        have s67 := s6.trans s7
        have k27 := k25.trans (.of_same (s := a) (l := l) s67)
        have hs7 := hs5.but s67
        have st7 := st5.same s67
        refine ⟨_, rfl, _, rfl, _, rfl, a, l, tb, sm, ms3, z, b3, nm, ss, zs, ks, rfl, hs7, by omega, by omega, st7, off, gd, fun H8 ms8 b8 k8 hs8 x1 x2 => ⟨_, rfl, ?_⟩⟩
        have k28 := k27.trans k8
        refine iteF ⟨_, rfl, _, rfl, _, rfl, a, l, tb, sm, ms8, z, b8, nm, ss, zs, ks, rfl, hs8, by omega, by omega, st7.but k8 hs7 off, off, gd, hvd, fun H9 ms9 b9 k9 hs9 x3 x4 => ⟨_, rfl, ?_⟩⟩
        refine iteF ⟨ms9, b9, _, _, _, rfl, ?_, hs9, by omega, by omega⟩
        exact ((((k3.trans (.of_same s4)).trans (.of_same s5)).trans (.of_same s67)).trans k8).trans k9
      · rw [hvd] at hv
        subst hv
        refine ⟨_, rfl, _, rfl, ?_⟩
        refine iteT ⟨_, rfl, rfl, _, rfl, ?_⟩
        have eN : (!decide (V.non = V.non)) = false := by rw [decide_eq_true rfl]; rfl
        refine if_as eN (iteF ⟨_, rfl, _, rfl, iteF (iteF ?_)⟩)
        refine ⟨_, rfl, _, rfl, iteF ?_⟩
        exact ⟨ms3, b3, _, _, _, rfl, k3.trans (.of_same s4), hs3.but s4, by omega, by omega⟩
    · rintro σ H3 ⟨ms3, b3, v4', v5, v6, rfl, k3, hs3, d1, d2⟩
      have k23 := k2.trans k3
      obtain ⟨bs, dd⟩ := smD k23
      refine ⟨_, rfl, .ref sm, _, 4, bs, rfl, dd, by decide, wl, _, rfl, rfl, ?_⟩
      rw [decide_eq_true rfl]
      exact k H3 ms3 b3 k23 hs3 (by omega) (by
        have : (([V.bl false, V.bl true].length : Nat) : Int) = 2 := rfl
        omega)
end
end Vm
namespace Vm
open PySem L2
abbrev sDef : Stmt := top 32
theorem q_same {x y : Str} {Q : VK} {H : Hp} (e : x = y) (h : Q (.bl true) H) : Q (.bl (decide (V.str x = V.str y))) H := by
  subst e
  rw [decide_eq_true rfl]
  exact h
def spDef : Sp := fun vs H Q _ => ∃ nm : Str, vs = [.str nm] ∧ nmS nm = true ∧ ∀ H', Q (.bl true) H'
theorem valid_a {nm : Str} (h : nmS nm = true) : valid (.str nm) (.tup ([Str.ofString "a"].map Tr.str)) (.tup (([] : List Str).map Tr.str)) (.tup (([] : List Str).map Tr.str)) = true := by
  have e : (areCols (.tup ([Str.ofString "a"].map Tr.str)) (.tup (([] : List Str).map Tr.str)) && isKey (.tup (([] : List Str).map Tr.str)) (strsOf (.tup ([Str.ofString "a"].map Tr.str)) ++ strsOf (.tup (([] : List Str).map Tr.str)))) = true := by decide +kernel
  unfold valid
  rw [e, Bool.and_true]
  exact h
theorem valid_p {nm : Str} (h : nmS nm = true) : valid (.str nm) (.tup (([] : List Str).map Tr.str)) (.tup ([Str.ofString "p"].map Tr.str)) (.tup (([] : List Str).map Tr.str)) = true := by
  have e : (areCols (.tup (([] : List Str).map Tr.str)) (.tup ([Str.ofString "p"].map Tr.str)) && isKey (.tup (([] : List Str).map Tr.str)) (strsOf (.tup (([] : List Str).map Tr.str)) ++ strsOf (.tup ([Str.ofString "p"].map Tr.str)))) = true := by decide +kernel
  unfold valid
  rw [e, Bool.and_true]
  exact h
section
variable {P : Program} {w : World} {K : PySem.W.Frag} {mg : Str → Option Value} {base : Heap} {fCols fKey C CI fI fE pC gC mC e1 e2 : Addr} {ds1 ds2 : List Value}
theorem scDef : FnScope ["_law_word_here", "_law_item", "_law_two", "_law_found"] ["_law_word_here"] (defScope sDef) := ⟨rfl, rfl, rfl, by decide +kernel, rfl, by decide +kernel, by decide +kernel⟩
theorem ok_def {f : Addr} {fd fdI fdE fdG fdC : FuncData} (F : Fun K "_law_defaults_right" "_law_defaults_right" sDef f fd) (U : TxtT K mg C CI fCols fKey) (O : TxtO K C) (M : Mk K C fI) (rp : mg "repr" = none)
    (GI : FnOk P w K mg base (L2.CX P w) 4 fI fdI ["self", "name", "names", "numbers", "key"] (spInit K C CI)) (b1 : Binds K fdI ["self", "name", "names", "numbers", "key"] ds1) (r1 : Vals [.ref e1, .ref e2] ds1)
    (b2 : Binds K fdI ["self", "name", "names", "numbers", "key"] ds2) (r2 : Vals [.ref e2] ds2) (t1 : KTup K e1) (t2 : KTup K e2)
    (hE : PySem.W.findIn K (.ref C) "__eq__" = some (some (.ref fE))) (fnE : PySem.W.isFn K (.ref fE) = true) (nfE : ∀ t : Tr, PySem.W.notFirst K C (.type (tyOf t)) = true) (GE : FnOk P w K mg base CX0 1 fE fdE ["self", "other"] (spEqT K C)) (bE : Binds K fdE ["self", "other"] [])
    (mCl : Meth K C "clash" mC) (GC : FnOk P w K mg base CX0 3 mC fdC ["self", "one", "other"] (spClash K C)) (bC : Binds K fdC ["self", "one", "other"] [])
    (pp : PropOf K C "columns" pC gC) (GG : FnOk P w K mg base CX0 1 gC fdG ["self"] (spColumns K C)) (bG : Binds K fdG ["self"] []) :
    FnG P w K mg base CX0 6 f fd ["_law_word_here"] spDef := by
  refine okG0 F scDef (fun vs H Q E h => ?_) (fun cdv A outer s H vs Q E ag hr h => ?_)
  · obtain ⟨nm, rfl, _⟩ := h
    rfl
  · obtain ⟨nm, rfl, hn, k⟩ := h
    have hr1 : Room 1 _ := hr.mono (by decide)
    have hr2 : Room 2 _ := hr.mono (by decide)
    have hr3 : Room 3 _ := hr.mono (by decide)
    have hu : (A.deeper (PyProof.Rows.envOfC "_law_defaults_right" (defScope sDef) s.heap.objs.size f cdv)).units + 16 < cLine := by
      have := hr.units
      omega
    have sa : ∀ {X : Cx}, ∀ {z : Str} {k : Nat} {p : Pos}, (reprText z).length ≤ 302 → z.length ≤ 302 → PE X (.Constant (.str z) k p) (tDt X.K (.str z) 0) := fun h1 h2 => pd_of pe_str fun H => .str (Nat.le_trans h1 (by decide)) (Nat.le_trans h2 (by decide))
    have sb : ∀ {X : Cx}, ∀ {z : Bool} {k : Nat} {p : Pos}, PE X (.Constant (.bool z) k p) (tDt X.K (.bl z) 1) := pd_of pe_bl fun H => .bl _
    refine ⟨_, pss_cons (ps_par (i := 1) (j := 2) rfl scDef.nd rfl rfl (by decide) rfl rfl (pa_cons (pe_make M GI hr rfl U.gC b1 r1 passC0 (pa_cons (pv 0) (pa_cons (pe_tupF (pa_cons pe_str pa_nil)) pa_nil)))
          (pa_cons (pe_make M GI hr rfl U.gC b2 r2 passC0 (pa_cons (pv 0) (pa_cons (pe_tupF pa_nil) (pa_cons (pe_tupF (pa_cons pe_str pa_nil)) pa_nil)))) pa_nil)) rfl)
      (pss_cons (ps_if (pt_cmpR op_ne (pe_callB (call_reprT ag hu) (by rfl) rp (by decide +kernel) (pa_cons (pe_lst (pa_cons (pe_fld (pv 1) rfl) (pa_cons (pe_fld (pv 1) rfl) (pa_cons (pe_fld (pv 1) rfl) (pa_cons (pe_prop (pv 1) U.cl pp GG hr2 bG .nil pass0 rfl) pa_nil))))) pa_nil))
          (pe_callB (call_reprT ag hu) (by rfl) rp (by decide +kernel) (pa_cons (pd_lst (n := 1) (ts := [.tup [.str "a"], .tup [], .tup [], .tup [.str "a"]]) (pd_cons (pd_tup (n := 0) (pd_cons (sa (by decide +kernel) (by decide +kernel)) pd_nil) (by decide)) (pd_cons (pd_tup pd_nil (by decide)) (pd_cons (pd_tup pd_nil (by decide))
            (pd_cons (pd_tup (n := 0) (pd_cons (sa (by decide +kernel) (by decide +kernel)) pd_nil) (by decide)) pd_nil)))) (by decide)) pa_nil)) (nomark _)) (pss_one (ps_ret pe_bl)) pss_nil)
      (pss_cons (ps_set (i := 3) scDef.nd rfl (Or.inl rfl) (pe_lst (pa_cons (pe_fld (pv 2) rfl) (pa_cons (pe_fld (pv 2) rfl) (pa_cons (pe_fld (pv 2) rfl) (pa_cons (pe_prop (pv 2) U.cl pp GG hr2 bG .nil pass0 rfl)
          (pa_cons (pe_meth (pl := _) (pv 1) U.cl mCl GC hr3 bC .nil pass0 (pa_cons (pe_tupF (pa_cons pe_str pa_nil)) (pa_cons (pe_tupF (pa_cons pe_str pa_nil)) pa_nil)))
          (pa_cons (pe_cmpR (op_eqOwn GE hE fnE bE hr1 nfE) (pv 1) (pv 2) (nomark _)) pa_nil))))))))
      (pss_one (ps_ret (pe_cmpR op_eq (pe_callB (call_reprT ag hu) (by rfl) rp (by decide +kernel) (pa_cons (pv 3) pa_nil))
          (pe_callB (call_reprT ag hu) (by rfl) rp (by decide +kernel) (pa_cons (pd_lst (n := 1) (ts := [.tup [], .tup [.str "p"], .tup [], .tup [.str "p"], .bl false, .bl false]) (pd_cons (pd_tup pd_nil (by decide)) (pd_cons (pd_tup (n := 0) (pd_cons (sa (by decide +kernel) (by decide +kernel)) pd_nil) (by decide)) (pd_cons (pd_tup pd_nil (by decide))
            (pd_cons (pd_tup (n := 0) (pd_cons (sa (by decide +kernel) (by decide +kernel)) pd_nil) (by decide)) (pd_cons sb (pd_cons sb pd_nil)))))) (by decide)) pa_nil)) (nomark _)))))), ?_⟩
    have big : sizeLine > 100000 := by decide
    have tl : ∀ t : Tr, t.w ≤ 100000 → t.text.length ≤ sizeLine := fun t h => by
      have := t.text_le
      omega
    have made : ∀ {H0 : Hp} {x dx : Addr}, H0 x = none → H0 dx = none → Same H0 (upd (upd H0 dx (.own x)) x (.ins C dx [])) := fun {H0 x dx} hx hdx b o e => by
      rw [upd_ne (ne_of_none e hx), upd_ne (ne_of_none e hdx)]
      exact e
    have nT : ∀ {H' : Hp}, Dt K H' (.str nm) (.str nm) 1 [] := .str (Nat.le_trans (nm_text hn).1 (by decide)) (Nat.le_trans (nm_text hn).2 (by decide))
    have aOk : ([Str.ofString "a"] : List Str).all nmS = true := by decide +kernel
    have pOk : ([Str.ofString "p"] : List Str).all nmS = true := by decide +kernel
    -- Table(word, ("a",))
    refine ⟨_, rfl, by show 1 ≤ sizeLine; omega, fun p1 o1 hp1 ho1 x dx hx hdx ne => ?_⟩
    have E1 : TupE K (upd H p1 (.frz o1 (.tup [V.str (Str.ofString "a")]))) p1 (([Str.ofString "a"] : List Str).map V.str) := .inr ⟨o1, upd_same, ho1⟩
    have s1 := same_upd (o := .frz o1 (.tup [V.str (Str.ofString "a")])) hp1
    generalize upd H p1 (.frz o1 (.tup [V.str (Str.ofString "a")])) = H1 at E1 s1 hx hdx ⊢
    obtain ⟨c1, d1, _⟩ := E1.dp (P := fun _ => True) (n := 0) aOk fun _ _ _ => trivial
    have m1 := made hx hdx
    refine ⟨x, dx, .str nm, .ref p1, .ref e1, .ref e2, _, _, _, _, 1, 1, 1, 1, [], c1, [], [], rfl, upd_same, nT, d1.same m1, .emp t1, .emp t2, fun _ H2 k2 i2 => ⟨rfl, ?_⟩, fun z => absurd ((valid_a hn).symm.trans z) (by decide)⟩
    have s2 : Same H1 H2 := fun b o q => k2 b o (ne_of_none q hx) (m1 b o q)
    have tx2 : Tb K H2 C x nm [Str.ofString "a"] [] [] := ⟨⟨dx, p1, e1, e2, i2, E1.same s2, .inl ⟨rfl, t1⟩, .inl ⟨rfl, t2⟩⟩, by decide, by decide, by decide⟩
    -- Table(word, (), ("p",))
    refine ⟨_, rfl, Nat.zero_le _, fun p3 o3 hp3 ho3 => ⟨by show 1 ≤ sizeLine; omega, fun p4 o4 hp4 ho4 y dy hy hdy ney => ?_⟩⟩
    have s3 := same_upd (o := .frz o3 (.tup [])) hp3
    have s4 := same_upd (o := .frz o4 (.tup [V.str (Str.ofString "p")])) hp4
    have s34 := s3.trans s4
    have E3 : TupE K (upd (upd H2 p3 (.frz o3 (.tup []))) p4 (.frz o4 (.tup [V.str (Str.ofString "p")]))) p3 (([] : List Str).map V.str) := .inr ⟨o3, s4 _ _ upd_same, ho3⟩
    have E4 : TupE K (upd (upd H2 p3 (.frz o3 (.tup []))) p4 (.frz o4 (.tup [V.str (Str.ofString "p")]))) p4 (([Str.ofString "p"] : List Str).map V.str) := .inr ⟨o4, upd_same, ho4⟩
    generalize upd (upd H2 p3 (.frz o3 (.tup []))) p4 (.frz o4 (.tup [V.str (Str.ofString "p")])) = H4 at s34 E3 E4 hy hdy ⊢
    obtain ⟨c3, d3, _⟩ := E3.dp (P := fun _ => True) (n := 0) rfl fun _ _ _ => trivial
    obtain ⟨c4, d4, _⟩ := E4.dp (P := fun _ => True) (n := 0) pOk fun _ _ _ => trivial
    have m4 := made hy hdy
    refine ⟨y, dy, .str nm, .ref p3, .ref p4, .ref e2, _, _, _, _, 1, 1, 1, 1, [], c3, c4, [], rfl, upd_same, nT, d3.same m4, d4.same m4, .emp t2, fun _ H5 k5 i5 => ⟨rfl, _, _, rfl, ?_⟩, fun z => absurd ((valid_p hn).symm.trans z) (by decide)⟩
    have s5 : Same H4 H5 := fun b o q => k5 b o (ne_of_none q hy) (m4 b o q)
    have s25 := s34.trans s5
    have tx5 := tx2.same s25
    have ty5 : Tb K H5 C y nm [] [Str.ofString "p"] [] := ⟨⟨dy, p3, p4, e2, i5, E3.same s5, E4.same s5, .inl ⟨rfl, t2⟩⟩, by decide, by decide, by decide⟩
    obtain ⟨⟨dx', q2, q3, q4, hx5, h2, h3, h4⟩, _, _, _⟩ := id tx5
    refine ⟨_, rfl, x, C, dx', _, _, rfl, hx5, U.cl, U.n2, rfl, _, rfl, x, C, dx', _, _, rfl, hx5, U.cl, U.n3, rfl, _, rfl, x, C, dx', _, _, rfl, hx5, U.cl, U.n4, rfl, _, rfl, x, dx', _, rfl, hx5, x, nm, _, _, _, rfl, tx5, fun q5 H6 s6 hq5 => ⟨by show 4 ≤ sizeLine; omega, fun p7 hp7 => ?_⟩⟩
    have T : ∀ _ : Addr, True := fun _ => trivial
    have all6 : DPs K H6 (fun _ => True) [.ref q2, .ref q3, .ref q4, .ref q5] [.tup ([Str.ofString "a"].map Tr.str), .tup (([] : List Str).map Tr.str), .tup (([] : List Str).map Tr.str), .tup (([Str.ofString "a"] ++ []).map Tr.str)] 1 :=
      .cons ((h2.same s6).dp (n := 0) aOk fun _ _ _ => trivial) (.cons ((h3.same s6).dp (n := 0) rfl fun _ _ _ => trivial) (.cons ((h4.same s6).dp (n := 0) rfl fun _ _ _ => trivial) (.cons (hq5.dp (n := 0) aOk fun _ _ _ => trivial) .nil)))
    obtain ⟨b7, d7, _⟩ := all6.lst hp7 trivial
    refine ⟨.ref p7, _, 2, b7, rfl, d7, by decide, tl _ (by decide +kernel), fun v8 H8 s8 d8 => ?_⟩
    obtain ⟨b8, d8, _⟩ := d8
    refine ⟨v8, _, 2, b8, rfl, d8, by decide, tl _ (by decide +kernel), rfl, _, rfl, ?_⟩
    have eqT : ∀ x : Str, (!decide (V.str x = V.str x)) = false := fun x => by rw [decide_eq_true rfl]; rfl
    refine if_as (eqT _) (iteF ?_)
    have s58 := (s6.trans (same_upd (o := .lst [.ref q2, .ref q3, .ref q4, .ref q5]) hp7)).trans s8
    have tx8 := tx5.same s58
    have ty8 := ty5.same s58
    obtain ⟨⟨dy', g2, g3, g4, hy8, f2, f3, f4⟩, _, _, _⟩ := id ty8
    refine ⟨_, rfl, y, C, dy', _, _, rfl, hy8, U.cl, U.n2, rfl, _, rfl, y, C, dy', _, _, rfl, hy8, U.cl, U.n3, rfl, _, rfl, y, C, dy', _, _, rfl, hy8, U.cl, U.n4, rfl, _, rfl, y, dy', _, rfl, hy8, y, nm, _, _, _, rfl, ty8, fun g5 H9 s9 hg5 => ?_⟩
    have tx9 := tx8.same s9
    obtain ⟨⟨dx9, _, _, _, hx9, _⟩, _⟩ := id tx9
    refine ⟨_, rfl, x, dx9, _, rfl, hx9, rfl, by show 1 ≤ sizeLine; omega, fun r1' o5 hr1' ho5 => ⟨by show 1 ≤ sizeLine; omega, fun r2' o6 hr2' ho6 => ?_⟩⟩
    have s10 := same_upd (o := .frz o5 (.tup [V.str (Str.ofString "x")])) hr1'
    have s11 := same_upd (o := .frz o6 (.tup [V.str (Str.ofString "x")])) hr2'
    have R1 : SqT K (upd (upd H9 r1' (.frz o5 (.tup [V.str (Str.ofString "x")]))) r2' (.frz o6 (.tup [V.str (Str.ofString "x")]))) r1' [V.str (Str.ofString "x")] := .inl (.inr ⟨o5, s11 _ _ upd_same⟩)
    have R2 : SqT K (upd (upd H9 r1' (.frz o5 (.tup [V.str (Str.ofString "x")]))) r2' (.frz o6 (.tup [V.str (Str.ofString "x")]))) r2' [V.str (Str.ofString "x")] := .inl (.inr ⟨o6, upd_same⟩)
    have s911 := s10.trans s11
    generalize upd (upd H9 r1' (.frz o5 (.tup [V.str (Str.ofString "x")]))) r2' (.frz o6 (.tup [V.str (Str.ofString "x")])) = H11 at s911 R1 R2 ⊢
    have sc : ∀ (i : Nat) u v, [V.str (Str.ofString "x")][i]? = some u → [V.str (Str.ofString "x")][i]? = some v → scal u v = true := fun i u v e e' => by
      have m1 := List.mem_singleton.mp (List.mem_of_getElem? e)
      have m2 := List.mem_singleton.mp (List.mem_of_getElem? e')
      rw [m1, m2]
      rfl
    refine ⟨x, r1', r2', nm, _, _, _, _, _, rfl, tx9.same s911, R1, R2, rfl, rfl, sc, fun H12 s12 => ?_⟩
    have s912 := s911.trans s12
    have tx12 := tx9.same s912
    have ty12 := (ty8.same s9).same s912
    refine ⟨_, rfl, _, rfl, x, .ref y, nm, _, _, _, rfl, tx12, .inl ⟨y, nm, _, _, _, rfl, ty12, fun H13 s13 => ⟨by show 6 ≤ sizeLine; omega, fun p14 hp14 => ?_⟩⟩⟩
    have s813 := (s9.trans s912).trans s13
    have s913 := s912.trans s13
    have eC : clashB ([Str.ofString "a"] ++ []) [] [V.str (Str.ofString "x")] [V.str (Str.ofString "x")] = false := by decide +kernel
    have eE : eqTb nm [Str.ofString "a"] [] [] nm [] [Str.ofString "p"] [] = false := by
      unfold eqTb
      have e : decide (([Str.ofString "a"] : List Str) = []) = false := by decide +kernel
      rw [e, Bool.false_and, Bool.and_false]
    rw [eC, eE]
    have all13 : DPs K H13 (fun _ => True) [.ref g2, .ref g3, .ref g4, .ref g5, .bl false, .bl false] [.tup (([] : List Str).map Tr.str), .tup ([Str.ofString "p"].map Tr.str), .tup (([] : List Str).map Tr.str), .tup (([] ++ [Str.ofString "p"]).map Tr.str), .bl false, .bl false] 1 :=
      .cons ((f2.same s813).dp (n := 0) rfl fun _ _ _ => trivial) (.cons ((f3.same s813).dp (n := 0) pOk fun _ _ _ => trivial) (.cons ((f4.same s813).dp (n := 0) rfl fun _ _ _ => trivial) (.cons ((hg5.same s913).dp (n := 0) pOk fun _ _ _ => trivial) (.cons (.bl false) (.cons (.bl false) .nil)))))
    obtain ⟨b14, d14, _⟩ := all13.lst hp14 trivial
    refine ⟨_, rfl, .ref p14, _, 2, b14, rfl, d14, by decide, tl _ (by decide +kernel), fun v15 H15 s15 d15 => ?_⟩
    obtain ⟨b15, d15, _⟩ := d15
    refine ⟨v15, _, 2, b15, rfl, d15, by decide, tl _ (by decide +kernel), rfl, ?_⟩
    exact q_same rfl (k H15)
end
end Vm
namespace Vm
open PySem L2
abbrev sLaw : Stmt := top 33
def spLaw (K : PySem.W.Frag) : Sp := fun vs H Q _ => ∃ (a : Addr) (ns : List Int), vs = [.ref a] ∧ SqL K H a (ns.map V.int) ∧ ns.length ≤ 63 ∧ ∀ H', Q (.bl true) H'
abbrev kw0 (vs zs : List V) : List V := match vs, zs with
  | [], [x] => [x]
  | _, _ => []
theorem long_text {x : Str} (h : nmS x = true) : (reprText (x ++ Str.ofString "s")).length ≤ 92 ∧ (x ++ Str.ofString "s").length ≤ 9 := by
  unfold nmS at h
  rw [Bool.and_eq_true, Bool.and_eq_true, decide_eq_true_eq, decide_eq_true_eq, List.all_eq_true] at h
  obtain ⟨_, h8, hl⟩ := h
  have ls : (Str.ofString "s").length = 1 := by decide +kernel
  have l9 : (x ++ Str.ofString "s").length ≤ 9 := by
    rw [strLen_append, ls]
    omega
  have e := StrLaws.reprText_len (x ++ Str.ofString "s") fun c hc => by
    have hc2 : c ∈ (x.cps ++ (Str.ofString "s").cps).toList := hc
    rw [Array.toList_append] at hc2
    rcases List.mem_append.mp hc2 with m | m
    · have z := hl c m
      unfold lowB at z
      rw [Bool.and_eq_true, decide_eq_true_eq, decide_eq_true_eq] at z
      omega
    · have e2 : (Str.ofString "s").cps.toList = [115] := by decide +kernel
      rw [e2] at m
      rw [List.mem_singleton.mp m]
      decide
  omega
section
variable {P : Program} {w : World} {K : PySem.W.Frag} {mg : Str → Option Value} {base : Heap} {fD fP fNm fNms fS fW fO fLN fV fB fT fF fI : Addr} {g0 : List Value → List Value → List Value}
theorem scLaw : FnScope ["_law_script", "_law_source_here", "_law_turn", "_law_word_here", "_law_some", "_law_k", "_law_at"] ["_law_script"] (defScope sLaw) := ⟨rfl, rfl, rfl, by decide +kernel, rfl, by decide +kernel, by decide +kernel⟩
theorem ok_law {f : Addr} {fd fdD fdP fdS fdW fdO fdLN fdV fdB fdT fdF fdI : FuncData} (F : Fun K "law" "law" sLaw f fd) (T : TxtL K mg fD fP) (rp : mg "repr" = none)
    (GD : FnOk P w K mg base CX0 1 fD fdD ["_law_source_here", "_law_many"] spDraw) (bD : Binds K fdD ["_law_source_here", "_law_many"] [])
    (GP : FnOk P w K mg base CX0 2 fP fdP ["_law_source_here", "_law_items"] (spPick K)) (bP : Binds K fdP ["_law_source_here", "_law_items"] [])
    (cS : Calls K mg "_law_source" fS) (GS : FnOk P w K mg base CX0 1 fS fdS ["_law_script"] (spSource K)) (bS : Binds K fdS ["_law_script"] [])
    (cW : Calls K mg "_law_word" fW) (GW : FnOk P w K mg base CX0 3 fW fdW ["_law_source_here"] spWord) (bW : Binds K fdW ["_law_source_here"] [])
    (cO : Calls K mg "_law_other" fO) (GO : FnOk P w K mg base CX0 3 fO fdO ["_law_source_here"] (spOther K)) (bO : Binds K fdO ["_law_source_here"] [])
    (cL : Calls K mg "_law_is_name" fLN) (GL : FnOk P w K mg base CX0 1 fLN fdLN ["_law_it"] (spTest K isNm)) (bL : Binds K fdLN ["_law_it"] [])
    (cV : Calls K mg "_law_valid" fV) (GV : FnOk P w K mg base CX0 4 fV fdV ["_law_source_here"] (spValid K)) (bV : Binds K fdV ["_law_source_here"] [])
    (cB : Calls K mg "_law_bent" fB) (GB : FnOk P w K mg base CX0 4 fB fdB ["_law_source_here", "_law_it"] (spBent K)) (bB : Binds K fdB ["_law_source_here", "_law_it"] [])
    (cT : Calls K mg "_law_table_right" fT) (GT : FnG P w K mg base CX0 7 fT fdT ["_law_source_here", "_law_some"] (spTabR K)) (bT : Binds K fdT ["_law_source_here", "_law_some"] [])
    (cF : Calls K mg "_law_defaults_right" fF) (GF : FnG P w K mg base CX0 6 fF fdF ["_law_word_here"] spDef) (bF : Binds K fdF ["_law_word_here"] [])
    (cI : Calls K mg "is_name" fI) (GI : FnOk P w K mg base CX0 1 fI fdI ["thing"] (spTest K isNm)) (bI : Binds K fdI ["thing"] []) (kI : KBinds K fdI ["thing"] ["thing"] g0 kw0) :
    FnG P w K mg base CX0 8 f fd ["_law_script"] (spLaw K) := by
  refine okG0 F scLaw (fun vs H Q E h => ?_) (fun cdv A outer s H vs Q E ag hr h => ?_)
  · obtain ⟨a, ns, rfl, _⟩ := h
    rfl
  · obtain ⟨sc, ns, rfl, hS, hlen, k⟩ := h
    have hr1 : Room 1 _ := hr.mono (by decide)
    have hr2 : Room 2 _ := hr.mono (by decide)
    have hr3 : Room 3 _ := hr.mono (by decide)
    have hr4 : Room 4 _ := hr.mono (by decide)
    have hr6 : Room 6 _ := hr.mono (by decide)
    have hu : (A.deeper (PyProof.Rows.envOfC "law" (defScope sLaw) s.heap.objs.size f cdv)).units + 16 < cLine := by
      have := hr.units
      omega
    refine ⟨_, pss_cons (ps_set (i := 1) scLaw.nd rfl (Or.inl rfl) (pe_call GS hr1 rfl cS.g cS.k bS .nil pass0 (pa_cons (pv 0) pa_nil)))
      (pss_cons (ps_for PassesOwn.never rfl (pi_range1 rfl T.range (pa_cons pe_int pa_nil)) (pg_name (i := 2) scLaw.nd rfl (Or.inl rfl))
        (pss_cons (ps_set (i := 3) scLaw.nd rfl (Or.inl rfl) (pe_call GP hr2 rfl T.gP T.kP bP .nil pass0 (pa_cons (pv 1) (pa_cons (pe_lst (pa_cons (pe_call GW hr3 rfl cW.g cW.k bW .nil pass0 (pa_cons (pv 1) pa_nil))
            (pa_cons (pe_call GO hr3 rfl cO.g cO.k bO .nil pass0 (pa_cons (pv 1) pa_nil)) (pa_cons (pe_op op_add_str (pe_call GW hr3 rfl cW.g cW.k bW .nil pass0 (pa_cons (pv 1) pa_nil)) pe_str) pa_nil)))) pa_nil))))
        (pss_cons (ps_if (pt_cmpR (op_neSS hr.units0) (pe_lst (pa_cons (pe_callB (call_reprT ag hu) (by rfl) rp (by decide +kernel) (pa_cons (pe_call GI hr1 rfl cI.g cI.k bI .nil pass0 (pa_cons (pv 3) pa_nil)) pa_nil))
              (pa_cons (pe_callB (call_reprT ag hu) (by rfl) rp (by decide +kernel) (pa_cons (pe_callK0 GI hr1 rfl cI.g cI.k kI pass0 (pk_cons (pv 3) pk_nil)) pa_nil)) pa_nil)))
            (pe_op op_rep (pe_lst (pa_cons (pe_callB (call_reprT ag hu) (by rfl) rp (by decide +kernel) (pa_cons (pe_call GL hr1 rfl cL.g cL.k bL .nil pass0 (pa_cons (pv 3) pa_nil)) pa_nil)) pa_nil)) pe_int) (nomark _)) (pss_one (ps_ret pe_bl)) pss_nil)
        (pss_cons (ps_set (i := 4) scLaw.nd rfl (Or.inl rfl) (pe_call GV hr4 rfl cV.g cV.k bV .nil pass0 (pa_cons (pv 1) pa_nil)))
        (pss_cons (ps_for PassesOwn.never rfl (pi_range1 rfl T.range (pa_cons (pe_call GP hr2 rfl T.gP T.kP bP .nil pass0 (pa_cons (pv 1) (pa_cons (pe_lst (pa_cons pe_int (pa_cons pe_int (pa_cons pe_int (pa_cons pe_int (pa_cons pe_int pa_nil)))))) pa_nil))) pa_nil)) (pg_name (i := 5) scLaw.nd rfl (Or.inl rfl))
          (pss_cons (ps_set (i := 6) scLaw.nd rfl (Or.inl rfl) (pe_call GD hr1 rfl T.gD T.kD bD .nil pass0 (pa_cons (pv 1) (pa_cons pe_int pa_nil))))
          (pss_one (ps_asg (pe_call GB hr4 rfl cB.g cB.k bB .nil pass0 (pa_cons (pv 1) (pa_cons (pe_ix ix_list (pv 4) (pv 6) (fun _ _ => rfl)) pa_nil))) (pg_sub (pv 4) (pv 6) set_list)))))
        (pss_one (ps_if (pt_not (pt_val (pe_callG GT ag hr rfl cT.g cT.k bT (pa_cons (pv 1) (pa_cons (pv 4) pa_nil))))) (pss_one (ps_ret pe_bl)) pss_nil)))))))
      (pss_one (ps_ret (pe_callG GF ag hr6 rfl cF.g cF.k bF (pa_cons (pe_call GW hr3 rfl cW.g cW.k bW .nil pass0 (pa_cons (pv 1) pa_nil)) pa_nil))))), ?_⟩
    have big : sizeLine > 100000 := by decide
    refine ⟨_, rfl, sc, ns, rfl, hS, hlen, fun H1 a l ms z s1 na nl hs1 => ?_⟩
    refine ⟨40, rfl, by decide, by decide, for_range (lo := 0) (n := 40) (fun i σ H' => ∃ (ms' : List Int) (b' : Int) (v2 v3 v4 v5 v6 : Option V), σ = [some (.ref sc), some (.ref a), v2, v3, v4, v5, v6] ∧ Src H' a l ms' z b' ∧ 0 ≤ b' ∧ b' ≤ 700 * (i : Int)) ⟨ms, 0, none, none, none, none, none, rfl, hs1, by omega, by omega⟩ ?_ ?_⟩
    · rintro i σ H2 hi ⟨ms2, b2, v2, v3, v4, v5, v6, rfl, hs2, d1, d2⟩
      have put : ∀ {HA HB : Hp} {D : Addr} {u : HO}, HA D = none → But a l HA HB → But a l HA (upd HB D u) := fun {HA HB D u} hD kk c o n1 n2 e => by
        rw [upd_ne fun q => by rw [q, hD] at e; exact nomatch e]
        exact kk c o n1 n2 e
      have tl : ∀ t : Tr, t.w ≤ 100000 → t.text.length ≤ sizeLine := fun t h => by
        have := t.text_le
        omega
      refine ⟨_, rfl, _, rfl, a, l, ms2, z, b2, rfl, hs2, by omega, by omega, fun H3 ms3 b3 x k3 hs3 x1 x2 nx => ?_⟩
      refine ⟨_, rfl, a, l, ms3, z, b3, rfl, hs3, by omega, by omega, fun H4 ms4 vo to k4 hs4 d4 w4 => ?_⟩
      refine ⟨_, rfl, a, l, ms4, z, b3 + 2, rfl, hs4, by omega, by omega, fun H5 ms5 b5 y k5 hs5 y1 y2 ny => ⟨_, _, rfl, rfl, ?_, by show 3 ≤ sizeLine; omega, fun q hq => ?_⟩⟩
      · have := (nm_text ny).2
        have e : (Str.ofString "s").length = 1 := by decide +kernel
        omega
      obtain ⟨qa, ql⟩ := hs5.free hq
      have s6 := same_upd (o := .lst [V.str x, vo, .str (y ++ Str.ofString "s")]) hq
      have hs6 := hs5.but s6
      have d5 : DP K (upd H5 q (.lst [V.str x, vo, .str (y ++ Str.ofString "s")])) (Off a l) vo to 2 := ((d4.imp fun c e => hs3.off c e).but k5).same s6
      have e6 : upd H5 q (.lst [V.str x, vo, .str (y ++ Str.ofString "s")]) q = some (.lst [V.str x, vo, .str (y ++ Str.ofString "s")]) := upd_same
      show spPick K [.ref a, .ref q] (upd H5 q (.lst [V.str x, vo, .str (y ++ Str.ofString "s")])) _ E0
      generalize upd H5 q (.lst [V.str x, vo, .str (y ++ Str.ofString "s")]) = H6 at s6 hs6 d5 e6 ⊢
      refine ⟨a, l, .ref q, ms5, z, b5, rfl, hs6, by omega, by omega, .inl ⟨q, [V.str x, vo, .str (y ++ Str.ofString "s")], rfl, fun H' kk => SqL.of (kk _ _ qa ql e6), by show 0 < 3; decide, by show 3 ≤ 1000; decide, fun H7 ms7 v k7 hs7 hv => ?_⟩⟩
      have dv : ∃ t, DP K H7 (Off a l) v t 2 ∧ t.w ≤ 400 := by
        simp only [List.mem_cons, List.not_mem_nil, or_false] at hv
        rcases hv with e | e | e
        · subst e
          exact ⟨_, .nm nx, Nat.le_trans (nm_text nx).1 (by decide)⟩
        · subst e
          exact ⟨_, d5.but k7, by omega⟩
        · subst e
          obtain ⟨g1, g2⟩ := long_text ny
          exact ⟨.str _, .str (Nat.le_trans g1 (by decide)) (Nat.le_trans g2 (by decide)), Nat.le_trans g1 (by decide)⟩
      obtain ⟨t, dv, wt⟩ := dv
      obtain ⟨bs, dv, _⟩ := dv
      have blen : ∀ c : Bool, (Tr.bl c).text.length ≤ sizeLine := fun c => tl _ (by show 5 ≤ 100000; decide)
      -- is_name
      refine ⟨_, rfl, v, t, 2, bs, rfl, dv, fun H8 s8 => ⟨_, .bl (isNm t), 0, [], rfl, .bl _, by decide, blen _, ?_⟩⟩
      refine ⟨_, rfl, v, t, 2, bs, rfl, dv.same s8, fun H9 s9 => ⟨_, .bl (isNm t), 0, [], rfl, .bl _, by decide, blen _, by show 2 ≤ sizeLine; omega, fun p1 hp1 => ?_⟩⟩
      have s79 := s8.trans s9
      have sp1 := same_upd (o := .lst [V.str (Tr.bl (isNm t)).text, .str (Tr.bl (isNm t)).text]) hp1
      have s710 := s79.trans sp1
      refine ⟨_, rfl, v, t, 2, bs, rfl, dv.same s710, fun H11 s11 => ⟨_, .bl (isNm t), 0, [], rfl, .bl _, by decide, blen _, by show 1 ≤ sizeLine; omega, fun p2 hp2 => ?_⟩⟩
      have s711 := s710.trans s11
      have sp2 := same_upd (o := .lst [V.str (Tr.bl (isNm t)).text]) hp2
      refine ⟨p2, 2, _, rfl, rfl, upd_same, by decide, by decide, by show 1 * 2 ≤ sizeLine; omega, fun p3 hp3 => ?_⟩
      have sp3 := same_upd (o := .lst (List.replicate (2 : Int).toNat [V.str (Tr.bl (isNm t)).text]).flatten) hp3
      refine ⟨p1, p3, [(Tr.bl (isNm t)).text, (Tr.bl (isNm t)).text], [(Tr.bl (isNm t)).text, (Tr.bl (isNm t)).text], rfl, rfl, SqL.of (sp3 _ _ (sp2 _ _ (s11 _ _ upd_same))), SqL.of upd_same, rfl, _, rfl, ?_⟩
      refine iteF ?_
      have sA := (s711.trans sp2).trans sp3
      have hsA := hs7.but sA
      show tSeq _ _ _ _ (upd (upd H11 p2 (.lst [V.str (Tr.bl (isNm t)).text])) p3 (.lst (List.replicate (2 : Int).toNat [V.str (Tr.bl (isNm t)).text]).flatten))
      generalize upd (upd H11 p2 (.lst [V.str (Tr.bl (isNm t)).text])) p3 (.lst (List.replicate (2 : Int).toNat [V.str (Tr.bl (isNm t)).text]).flatten) = HA at sA hsA ⊢
      -- the arguments
      refine ⟨_, rfl, a, l, ms7, z, b5 + 1, rfl, hsA, by omega, by omega, fun HB msB bB sm us ts kB hsB c1 c2 hsm eB dB lu wB => ?_⟩
      have offm : Off a l sm := hsA.free hsm
      obtain ⟨w1, w2, w3, w4, rfl⟩ := four lu
      obtain ⟨t1, t2, t3, t4, rfl⟩ := four (dB.length.symm.trans lu)
      have d0 : DPs K HB (fun c => Off a l c ∧ c ≠ sm) [w1, w2, w3, w4] [t1, t2, t3, t4] 3 := (dB.lvl (by decide)).imp fun c e => ⟨hsA.free e.1, e.2⟩
      refine ⟨_, rfl, by show 5 ≤ sizeLine; omega, fun p5 hp5 => ?_⟩
      obtain ⟨q5, r5⟩ := hsB.free hp5
      have s5' := same_upd (o := .lst [V.int 0, .int 0, .int 1, .int 1, .int 2]) hp5
      have hsC := hsB.but s5'
      have e5 : upd HB p5 (.lst [V.int 0, .int 0, .int 1, .int 1, .int 2]) p5 = some (.lst [V.int 0, .int 0, .int 1, .int 1, .int 2]) := upd_same
      have eC := s5' _ _ eB
      have dC := d0.same s5'
      show spPick K [.ref a, .ref p5] (upd HB p5 (.lst [V.int 0, .int 0, .int 1, .int 1, .int 2])) _ E0
      generalize upd HB p5 (.lst [V.int 0, .int 0, .int 1, .int 1, .int 2]) = HC at s5' hsC e5 eC dC ⊢
      refine ⟨a, l, .ref p5, msB, z, bB, rfl, hsC, by omega, by omega, .inl ⟨p5, _, rfl, fun H' kk => SqL.of (kk _ _ q5 r5 e5), by show 0 < 5; decide, by show 5 ≤ 1000; decide, fun HD msD v' kD hsD hv' => ?_⟩⟩
      obtain ⟨j, rfl, j0, j2⟩ : ∃ j : Int, v' = .int j ∧ 0 ≤ j ∧ j ≤ 2 := by
        simp only [List.mem_cons, List.not_mem_nil, or_false] at hv'
        rcases hv' with e | e | e | e | e <;> exact ⟨_, e, by decide, by decide⟩
      have eD := kD _ _ offm.1 offm.2 eC
      have dD : DPs K HD (fun c => Off a l c ∧ c ≠ sm) [w1, w2, w3, w4] [t1, t2, t3, t4] 3 := dC.keep fun c o p e => kD c o p.1.1 p.1.2 e
      refine ⟨j, rfl, by omega, by omega, for_range (lo := 0) (n := j.toNat) (fun n σ H' => ∃ (ms' : List Int) (b' : Int) (v5' v6' : Option V) (x1 x2 x3 x4 : V) (u1 u2 u3 u4 : Tr), σ = [some (.ref sc), some (.ref a), some (.int (0 + (i : Int))), some v, some (.ref sm), v5', v6'] ∧ Src H' a l ms' z b' ∧ bB ≤ b' ∧ b' ≤ bB + 1 + 21 * (n : Int) ∧
        H' sm = some (.lst [x1, x2, x3, x4]) ∧ DPs K H' (fun c => Off a l c ∧ c ≠ sm) [x1, x2, x3, x4] [u1, u2, u3, u4] 3 ∧ ∀ t ∈ [u1, u2, u3, u4], t.w + 400 ≤ 800 * 2 ^ n)
        ⟨msD, bB + 1, _, _, w1, w2, w3, w4, t1, t2, t3, t4, rfl, hsD, by omega, by omega, eD, dD, fun t ht => by have := wB t ht; omega⟩ ?_ ?_⟩
      · rintro n σ HE hn ⟨msE, bE, v5', v6', x1, x2, x3, x4, u1, u2, u3, u4, rfl, hsE, f1, f2, eE, dE, wE⟩
        refine ⟨_, rfl, a, l, msE, z, bE, 4, rfl, hsE, by decide, by decide, by omega, by omega, fun HF msF r kF hsF r0 r1 => ?_⟩
        obtain ⟨jj, rfl⟩ : ∃ jj : Nat, r = (jj : Int) := ⟨r.toNat, by omega⟩
        have jj4 : jj < 4 := by omega
        have eF := kF _ _ offm.1 offm.2 eE
        have dF : DPs K HF (fun c => Off a l c ∧ c ≠ sm) [x1, x2, x3, x4] [u1, u2, u3, u4] 3 := dE.keep fun c o p e => kF c o p.1.1 p.1.2 e
        have hj : jj < [x1, x2, x3, x4].length := jj4
        obtain ⟨tj, etj, dj⟩ := dF.get (List.getElem?_eq_getElem hj)
        have wj := wE tj (List.mem_of_getElem? etj)
        have n2 : n < 2 := by omega
        have pow : 800 * 2 ^ n ≤ 3200 := by
          have : n = 0 ∨ n = 1 := by omega
          rcases this with e | e <;> subst e <;> decide
        refine ⟨_, rfl, _, rfl, _, rfl, sm, _, (jj : Int), _, rfl, rfl, SqL.of eF, atI_nat (List.getElem?_eq_getElem hj), a, l, msF, z, bE + 1, _, tj, (fun c => Off a l c ∧ c ≠ sm), rfl, hsF, by omega, by omega, dj, by omega, (fun c p => p.1), (fun c e => ⟨hsF.free e, fun q => by rw [q, eF] at e; cases e⟩), fun HG msG bG v' t' kG hsG g1 g2 dG wG => ?_⟩
        have eG := kG _ _ offm.1 offm.2 eF
        have dG2 : DPs K HG (fun c => Off a l c ∧ c ≠ sm) [x1, x2, x3, x4] [u1, u2, u3, u4] 3 := dF.keep fun c o p e => kG c o p.1.1 p.1.2 e
        refine ⟨_, rfl, _, rfl, sm, _, (jj : Int), jj, rfl, rfl, eG, ixN4 jj4, ?_⟩
        have all := DPs.set dG jj dG2
        have lv : ([x1, x2, x3, x4].set jj v').length = 4 := by
          rw [List.length_set]
          rfl
        have wset : ∀ t ∈ [u1, u2, u3, u4].set jj t', t.w + 400 ≤ 800 * 2 ^ (n + 1) := fun t ht => by
          have e : 800 * 2 ^ (n + 1) = 2 * (800 * 2 ^ n) := by
            rw [Nat.pow_succ]
            omega
          rw [e]
          rcases List.mem_or_eq_of_mem_set ht with m | m
          · have := wE t m
            omega
          · rw [m]
            omega
        obtain ⟨y1', y2', y3', y4', ey⟩ := four lv
        obtain ⟨o1, o2, o3, o4, eo⟩ := four (all.length.symm.trans lv)
        rw [ey, eo] at all
        rw [eo] at wset
        rw [ey]
        refine ⟨msG, bG, _, _, y1', y2', y3', y4', o1, o2, o3, o4, rfl, ⟨?_, ?_, hsG.len⟩, by omega, by omega, upd_same, all.keep fun c o p e => ?_, wset⟩
        · rw [upd_ne offm.1.symm]
          exact hsG.hs
        · rw [upd_ne offm.2.symm]
          exact hsG.hl
        · rw [upd_ne p.2]
          exact e
      · rintro σ HE ⟨msE, bE, v5', v6', x1, x2, x3, x4, u1, u2, u3, u4, rfl, hsE, f1, f2, eE, dE, wE⟩
        have pow : 800 * 2 ^ j.toNat ≤ 3200 := by
          have : j.toNat = 0 ∨ j.toNat = 1 ∨ j.toNat = 2 := by omega
          rcases this with e | e | e <;> rw [e] <;> decide
        refine ⟨_, rfl, _, rfl, a, l, sm, msE, z, bE, x1, x2, x3, x4, u1, u2, u3, u4, rfl, hsE, by omega, by omega, eE, offm, dE, fun t ht => by have := wE t ht; omega, fun HI msI bI kI hsI h1 h2 => ⟨_, rfl, ?_⟩⟩
        exact iteF ⟨msI, bI, _, _, _, _, _, rfl, hsI, by omega, by omega⟩
    · rintro σ H2 ⟨ms2, b2, v2, v3, v4, v5, v6, rfl, hs2, d1, d2⟩
      refine ⟨_, rfl, a, l, ms2, z, b2, rfl, hs2, by omega, by omega, fun H3 ms3 b3 x k3 hs3 x1 x2 nx => ?_⟩
      exact ⟨x, rfl, nx, fun H' => k H'⟩
end
end Vm
namespace Vm
open PySem L2
/-! the written part, read by names -/
theorem both {a b : Bool} (h : (a && b) = true) : a = true ∧ b = true := Bool.and_eq_true_iff.mp h
/-- a def that stands at a -/
def fnAt (K : PySem.W.Frag) (a : Addr) : He.FnV := match K.lookup a with
  | some ⟨_, _, .func fd, _⟩ => some (fd.name, fd.qualname, fd.params, fd.body, fd.scope, fd.globals, fd.closure, fd.defaults, fd.builtins)
  | _ => none
def codeAt (K : PySem.W.Frag) (a : Addr) (q : Str) : Bool := match K.lookup a with
  | some ⟨_, _, .func fd, _⟩ => PySem.W.codeIn K fd.code q
  | _ => false
theorem fnAt_ok {K : PySem.W.Frag} {a : Addr} {x q : Str} {st : Stmt} (e : fnAt K a = some (x, q, defArgs st, .stmts (defBody st), defScope st, mainGlobals, [], .none, builtinsNs)) (c : codeAt K a q = true) : ∃ fd, Fun K x q st a fd := by
  have kp : PySem.W.keepIn K (.ref a) = true := by
    unfold codeAt at c
    unfold PySem.W.keepIn
    split at c
    · rename_i l
      dsimp only
      simp only [l]
    · cases c
  unfold fnAt at e
  unfold codeAt at c
  cases l : K.lookup a with
  | none =>
    rw [l] at c
    cases c
  | some o =>
    obtain ⟨oc, od, dt, osl⟩ := o
    rw [l] at c e
    cases dt with
    | func fd =>
      obtain ⟨n1, n2, n3, n4, n5, n6, n7, n8, n9, n10, n11, n12, n13, n14, n15⟩ := fd
      have e2 : (some (n1, n2, n3, n4, n5, n6, n7, n8, n15) : He.FnV) = some (x, q, defArgs st, .stmts (defBody st), defScope st, mainGlobals, [], .none, builtinsNs) := e
      simp only [Option.some.injEq, Prod.mk.injEq] at e2
      obtain ⟨h1, h2, h3, h4, h5, h6, h7, h8, h9⟩ := e2
      subst h1 h2 h3 h4 h5 h6 h7 h8 h9
      exact ⟨_, fun_mk l c kp⟩
    | _ => cases c
def tyNames : List String := ["NoneType", "bool", "int", "str", "list", "tuple", "dict"]
theorem tyNames_all {p : String → Bool} (h : tyNames.all p = true) (t : Tr) : p (tyOf t) = true := by
  refine List.all_eq_true.mp h _ ?_
  cases t <;> simp [tyNames, tyOf]
def ktupB (K : PySem.W.Frag) (a : Addr) : Bool := match K.lookup a with
  | some ⟨.type c, _, .seq its _, _⟩ => decide (c = "tuple") && decide (its.toList = [])
  | _ => false
theorem ktupB_ok {K : PySem.W.Frag} {a : Addr} (h : ktupB K a = true) : KTup K a := by
  unfold ktupB at h
  split at h
  · rename_i c dd its n sl l
    obtain ⟨h1, h2⟩ := both h
    have e1 := of_decide_eq_true h1
    have e2 := of_decide_eq_true h2
    refine ⟨_, its, n, l, by rw [e1], rfl, ?_, ?_⟩
    · have : its.size = 0 := by
        rw [← Array.length_toList, e2]
        rfl
      rw [this]
      exact Nat.zero_le _
    · rw [e2]
      exact .nil
  · cases h
abbrev aC (K : PySem.W.Frag) : Addr := He.ga K "Table"
abbrev aI (K : PySem.W.Frag) : Addr := He.ga K "InvalidTable"
def pA (K : PySem.W.Frag) : Addr := He.ma K (aC K) "columns"
def gA (K : PySem.W.Frag) : Addr := match PySem.W.recIn K (pA K) "property" with
  | some (.ref g :: _) => g
  | _ => 0
def recB (K : PySem.W.Frag) : Bool := match PySem.W.recIn K (pA K) "property" with
  | some (.ref _ :: _) => true
  | _ => false
theorem recB_ok {K : PySem.W.Frag} (h : recB K = true) : ∃ rest, PySem.W.recIn K (pA K) "property" = some (.ref (gA K) :: rest) := by
  unfold recB at h
  split at h
  · rename_i g r e
    refine ⟨r, ?_⟩
    unfold gA
    rw [e]
  · cases h
abbrev d0 : PySem.W.Frag → Addr := He.dflAt ("Table", some "__init__") 0
abbrev d1 : PySem.W.Frag → Addr := He.dflAt ("Table", some "__init__") 1
def gDef : He.FnV := some ("columns", "Table.columns", defArgs sColumns, .stmts (defBody sColumns), defScope sColumns, mainGlobals, [], .none, builtinsNs)
def dInit : He.DefD := { at_ := ("Table", some "__init__"), name := "__init__", qual := "Table.__init__", params := defArgs sInit, body := defBody sInit, scope := defScope sInit, dfl := [.adr d0, .adr d1] }

def chk (K : PySem.W.Frag) : Bool :=
  ((dInit.ok K) &&
  ((ktupB K (d0 K)) &&
  ((ktupB K (d1 K)) &&
  ((codeAt K (gA K) "Table.columns") &&
  ((He.eqO (PySem.W.findIn K (.ref (aC K)) "columns") (some (some (.ref (pA K))))) &&
  ((decide (PySem.W.specialIn K (.ref (pA K)) "__get__" = some (some (.builtin "property.__get__")))) &&
  ((decide (PySem.W.takesIn K (.ref (pA K)) = some true)) &&
  ((recB K) &&
  ((decide (PySem.W.findIn K (.ref (aC K)) "__class__" = some (some (.builtin "object.__class__")))) &&
  ((decide (PySem.W.specialIn K (.builtin "object.__class__") "__get__" = some (some (.builtin "getset_descriptor.__get__")))) &&
  ((decide (PySem.W.takesIn K (.builtin "object.__class__") = some true)) &&
  ((decide (PySem.W.mroIn K (aC K) (.type "object") = some true)) &&
  ((decide (PySem.W.kitOne K (.ref (aC K)) (.ref (aC K)) = some true)) &&
  ((tyNames.all fun T => decide (PySem.W.kitOne K (.type T) (.ref (aC K)) = some false)) &&
  ((tyNames.all fun T => PySem.W.notFirst K (aC K) (.type T)) &&
  ((tyNames.all fun T => decide (PySem.W.subIn K (.ref (aC K)) (.type T) = some false)) &&
  ((decide (PySem.W.findIn K (.ref (aC K)) "__ne__" = some (some (.builtin "object.__ne__")))) &&
  ((decide (PySem.W.findIn K (.ref (aI K)) "__getattribute__" = some (some (.builtin "BaseException.__getattribute__")))) &&
  ((decide (PySem.W.findIn K (.ref (aI K)) "__getattr__" = some none)) &&
  ((PySem.W.hasDictIn K (aI K)) &&
  ((decide (PySem.W.findIn K (.ref (aI K)) "__class__" = some (some (.builtin "object.__class__")))) &&
  ((decide (PySem.W.mroIn K (aI K) (.type "object") = some true)) &&
  ((decide (PySem.W.kitOne K (.ref (aI K)) (.ref (He.ga K "TurnError")) = some true)) &&
  (decide (PySem.W.kitOne K (.ref (aI K)) (.type "ValueError") = some true)))))))))))))))))))))))))
def faL : List He.Fa := [.glo "_law_source", .glo "_law_draw", .glo "_law_pick", .glo "_law_word", .glo "_law_other", .glo "_law_is_name", .glo "_law_are_names", .glo "_law_key_right", .glo "_law_right", .glo "_law_valid", .glo "_law_bent", .glo "_law_heard", .glo "_law_row", .glo "_law_is_row", .glo "_law_clash", .glo "_law_rows_right", .glo "_law_equal_right", .glo "_law_table_right", .glo "_law_defaults_right", .glo "law", .glo "is_number", .glo "is_name", .glo "_are_columns", .glo "_are_names", .glo "_is_key", .glo "Table", .glo "InvalidTable", .glo "TurnError", .free "isinstance", .free "int", .free "bool", .free "str", .free "tuple", .free "len", .free "all", .free "set", .free "list", .free "range", .free "repr", .free "enumerate", .free "min", .free "max", .free "ValueError", .int "_LONGEST_NAME" 8, .int "_MOST_COLUMNS" 2, .cls "Table", .noat "Table" "name", .noat "Table" "names", .noat "Table" "numbers", .noat "Table" "key", .meth "Table" "is_row", .meth "Table" "clash", .meth "Table" "__eq__", .mkr "Table", .exc "InvalidTable", .exm "InvalidTable" "InvalidTable" true]
def fnL : List He.FnD := [⟨("_law_source", none), "_law_source", "_law_source", defArgs sSource, defBody sSource, defScope sSource⟩, ⟨("_law_draw", none), "_law_draw", "_law_draw", defArgs sDraw, defBody sDraw, defScope sDraw⟩, ⟨("_law_pick", none), "_law_pick", "_law_pick", defArgs sPick, defBody sPick, defScope sPick⟩, ⟨("_law_word", none), "_law_word", "_law_word", defArgs sWord, defBody sWord, defScope sWord⟩, ⟨("_law_other", none), "_law_other", "_law_other", defArgs sOther, defBody sOther, defScope sOther⟩, ⟨("_law_is_name", none), "_law_is_name", "_law_is_name", defArgs sLIsName, defBody sLIsName, defScope sLIsName⟩, ⟨("_law_are_names", none), "_law_are_names", "_law_are_names", defArgs sLAreNames, defBody sLAreNames, defScope sLAreNames⟩, ⟨("_law_key_right", none), "_law_key_right", "_law_key_right", defArgs sLKey, defBody sLKey, defScope sLKey⟩, ⟨("_law_right", none), "_law_right", "_law_right", defArgs sRight, defBody sRight, defScope sRight⟩, ⟨("_law_valid", none), "_law_valid", "_law_valid", defArgs sValid, defBody sValid, defScope sValid⟩, ⟨("_law_bent", none), "_law_bent", "_law_bent", defArgs sBent, defBody sBent, defScope sBent⟩, ⟨("_law_heard", none), "_law_heard", "_law_heard", defArgs sHeard, defBody sHeard, defScope sHeard⟩, ⟨("_law_row", none), "_law_row", "_law_row", defArgs sLRow, defBody sLRow, defScope sLRow⟩, ⟨("_law_is_row", none), "_law_is_row", "_law_is_row", defArgs sLIsRow, defBody sLIsRow, defScope sLIsRow⟩, ⟨("_law_clash", none), "_law_clash", "_law_clash", defArgs sLClash, defBody sLClash, defScope sLClash⟩, ⟨("_law_rows_right", none), "_law_rows_right", "_law_rows_right", defArgs sRows, defBody sRows, defScope sRows⟩, ⟨("_law_equal_right", none), "_law_equal_right", "_law_equal_right", defArgs sEqR, defBody sEqR, defScope sEqR⟩, ⟨("_law_table_right", none), "_law_table_right", "_law_table_right", defArgs sTabR, defBody sTabR, defScope sTabR⟩, ⟨("_law_defaults_right", none), "_law_defaults_right", "_law_defaults_right", defArgs sDef, defBody sDef, defScope sDef⟩, ⟨("law", none), "law", "law", defArgs sLaw, defBody sLaw, defScope sLaw⟩, ⟨("is_number", none), "is_number", "is_number", defArgs sIsNum, defBody sIsNum, defScope sIsNum⟩, ⟨("is_name", none), "is_name", "is_name", defArgs sIsName, defBody sIsName, defScope sIsName⟩, ⟨("_are_columns", none), "_are_columns", "_are_columns", defArgs sAreCols, defBody sAreCols, defScope sAreCols⟩, ⟨("_are_names", none), "_are_names", "_are_names", defArgs sAreNames, defBody sAreNames, defScope sAreNames⟩, ⟨("_is_key", none), "_is_key", "_is_key", defArgs sIsKey, defBody sIsKey, defScope sIsKey⟩, ⟨("Table", some "is_row"), "is_row", "Table.is_row", defArgs sIsRow, defBody sIsRow, defScope sIsRow⟩, ⟨("Table", some "clash"), "clash", "Table.clash", defArgs sClash, defBody sClash, defScope sClash⟩, ⟨("Table", some "__eq__"), "__eq__", "Table.__eq__", defArgs sEq, defBody sEq, defScope sEq⟩]
section
variable {K : PySem.W.Frag} {h : Heap} {mg : Str → Option Value} {fa : List He.Fa} {fn : List He.FnD}
theorem fun_of (c : He.SaysE fa fn K) (i : Nat) {p : Str × Option Str} {x q : Str} {st : Stmt} (e : fn[i]? = some ⟨p, x, q, defArgs st, defBody st, defScope st⟩) : ∃ fd, Fun K x q st (He.fAd K p) fd := by
  obtain ⟨oc, od, osl, kV, doc, pm, an, cdv, ct, l, cc⟩ := c.def_ i e
  refine ⟨_, fun_mk l cc ?_⟩
  show PySem.W.keepIn K (.ref (He.fAd K p)) = true
  unfold PySem.W.keepIn
  dsimp only at l
  simp only [l]
theorem _root_.L2.Fun.kb {x qual : Str} {st : Stmt} {f : Addr} {fd : FuncData} {ps ks : List Str} {g : List Value → List Value → List Value} {gV : List V → List V → List V} (F : Fun K x qual st f fd)
    (e : ∀ (kV doc pm : Value) (an : Option Addr) (cdv ct : Value) (us ws : List Value), (g us ws).length = ps.length → bindArgs (PySem.W.fnOf x qual (defArgs st) (defBody st) (defScope st) .none kV doc pm an cdv ct) ⟨us, ks.zip ws⟩ = pure (ps.zip (g us ws)))
    (rel : ∀ {vs : List V} {us : List Value} {zs : List V} {ws : List Value}, Vals vs us → Vals zs ws → Vals (gV vs zs) (g us ws)) : KBinds K fd ps ks g gV := ⟨fun s us ws _ hl => by
  obtain ⟨oc, od, kV, doc, pm, an, cdv, ct, osl, rfl, lk, hcd⟩ := F.ex
  exact .of_eq (e kV doc pm an cdv ct us ws hl), rel⟩
end
def hw0 (us ws : List Value) : List Value := match us, ws with
  | [], [x] => [x]
  | _, _ => []
def hw1 (us ws : List Value) : List Value := match us, ws with
  | [a], [x] => [a, x]
  | _, _ => []
def hw2 (us ws : List Value) : List Value := match us, ws with
  | [a], [x, y] => [a, y, x]
  | _, _ => []
theorem hw0_rel {vs : List V} {us : List Value} {zs : List V} {ws : List Value} (a : Vals vs us) (b : Vals zs ws) : Vals (kw0 vs zs) (hw0 us ws) := by
  cases a with
  | nil => cases b with
    | nil => exact .nil
    | cons h r => cases r with
      | nil => exact .cons h .nil
      | cons _ _ => exact .nil
  | cons _ _ => exact .nil
theorem hw1_rel {vs : List V} {us : List Value} {zs : List V} {ws : List Value} (a : Vals vs us) (b : Vals zs ws) : Vals (kw1 vs zs) (hw1 us ws) := by
  cases a with
  | nil => exact .nil
  | cons h r => cases r with
    | cons _ _ => exact .nil
    | nil => cases b with
      | nil => exact .nil
      | cons h2 r2 => cases r2 with
        | nil => exact .cons h (.cons h2 .nil)
        | cons _ _ => exact .nil
theorem hw2_rel {vs : List V} {us : List Value} {zs : List V} {ws : List Value} (a : Vals vs us) (b : Vals zs ws) : Vals (kw2 vs zs) (hw2 us ws) := by
  cases a with
  | nil => exact .nil
  | cons h r => cases r with
    | cons _ _ => exact .nil
    | nil => cases b with
      | nil => exact .nil
      | cons h2 r2 => cases r2 with
        | nil => exact .nil
        | cons h3 r3 => cases r3 with
          | nil => exact .cons h (.cons h3 (.cons h2 .nil))
          | cons _ _ => exact .nil
def gKwA {α : Type} (vs ds zs : List α) : List α := match vs, zs with
  | [e], [k, n, s, m] => [e, m, s, n, k]
  | _, _ => []
theorem gKwA_V (ds : List V) : (fun vs zs => gKwA vs ds zs) = gKw := by
  funext vs zs
  cases vs with
  | nil => rfl
  | cons a r => cases r with
    | cons _ _ => rfl
    | nil => cases zs with
      | nil => rfl
      | cons h1 r1 => cases r1 with
        | nil => rfl
        | cons h2 r2 => cases r2 with
          | nil => rfl
          | cons h3 r3 => cases r3 with
            | nil => rfl
            | cons h4 r4 => cases r4 <;> rfl
theorem gKwA_rel {vs ds zs : List V} {us its ws : List Value} (a : Vals vs us) (_ : Vals ds its) (b : Vals zs ws) : Vals (gKwA vs ds zs) (gKwA us its ws) := by
  cases a with
  | nil => exact .nil
  | cons h r => cases r with
    | cons _ _ => exact .nil
    | nil => cases b with
      | nil => exact .nil
      | cons h1 r1 => cases r1 with
        | nil => exact .nil
        | cons h2 r2 => cases r2 with
          | nil => exact .nil
          | cons h3 r3 => cases r3 with
            | nil => exact .nil
            | cons h4 r4 => cases r4 with
              | nil => exact .cons h (.cons h4 (.cons h3 (.cons h2 (.cons h1 .nil))))
              | cons _ _ => exact .nil

section
variable {P : Program} {w : World} {K : PySem.W.Frag} {h : Heap} {mg : Str → Option Value}
theorem all_of (X : K.In h) (G : h.Ns mainGlobals mg) (c : He.SaysE faL fnL K) (z : chk K = true) (eI : He.fnW K ("Table", some "__init__") = dInit.val) (eG : fnAt K (gA K) = gDef) {f : Addr} (hf : mg "law" = some (.ref f)) :
    ∃ fd : FuncData, (∀ (s : Shared) (v : Value), BindsTo s fd ⟨[v], []⟩ [("_law_script", v)]) ∧ ∀ base : Heap, K.In base → base.Ns mainGlobals mg → FnG P w K mg base CX0 8 f fd ["_law_script"] (spLaw K) := by
  obtain ⟨z1, z⟩ := both z
  obtain ⟨z2, z⟩ := both z
  obtain ⟨z3, z⟩ := both z
  obtain ⟨z4, z⟩ := both z
  obtain ⟨z5, z⟩ := both z
  obtain ⟨z6, z⟩ := both z
  obtain ⟨z7, z⟩ := both z
  obtain ⟨z8, z⟩ := both z
  obtain ⟨z9, z⟩ := both z
  obtain ⟨z10, z⟩ := both z
  obtain ⟨z11, z⟩ := both z
  obtain ⟨z12, z⟩ := both z
  obtain ⟨z13, z⟩ := both z
  obtain ⟨z14, z⟩ := both z
  obtain ⟨z15, z⟩ := both z
  obtain ⟨z16, z⟩ := both z
  obtain ⟨z17, z⟩ := both z
  obtain ⟨z18, z⟩ := both z
  obtain ⟨z19, z⟩ := both z
  obtain ⟨z20, z⟩ := both z
  obtain ⟨z21, z⟩ := both z
  obtain ⟨z22, z⟩ := both z
  obtain ⟨z23, z⟩ := both z
  obtain ⟨fdS, FS⟩ := fun_of c 0 (p := ("_law_source", none)) (x := "_law_source") (q := "_law_source") (st := sSource) rfl
  have cS : Calls K mg "_law_source" (He.ga K "_law_source") := ⟨He.glo_ok X G (c.fact 0 (f := .glo "_law_source") rfl), FS.kp⟩
  have bS : Binds K fdS ["_law_script"] [] := FS.binds fun _ _ _ _ _ _ us hl => match us, hl with | [_], _ => rfl
  obtain ⟨fdD, FD⟩ := fun_of c 1 (p := ("_law_draw", none)) (x := "_law_draw") (q := "_law_draw") (st := sDraw) rfl
  have cD : Calls K mg "_law_draw" (He.ga K "_law_draw") := ⟨He.glo_ok X G (c.fact 1 (f := .glo "_law_draw") rfl), FD.kp⟩
  have bD : Binds K fdD ["_law_source_here", "_law_many"] [] := FD.binds fun _ _ _ _ _ _ us hl => match us, hl with | [_, _], _ => rfl
  obtain ⟨fdP, FP⟩ := fun_of c 2 (p := ("_law_pick", none)) (x := "_law_pick") (q := "_law_pick") (st := sPick) rfl
  have cP : Calls K mg "_law_pick" (He.ga K "_law_pick") := ⟨He.glo_ok X G (c.fact 2 (f := .glo "_law_pick") rfl), FP.kp⟩
  have bP : Binds K fdP ["_law_source_here", "_law_items"] [] := FP.binds fun _ _ _ _ _ _ us hl => match us, hl with | [_, _], _ => rfl
  obtain ⟨fdW, FW⟩ := fun_of c 3 (p := ("_law_word", none)) (x := "_law_word") (q := "_law_word") (st := sWord) rfl
  have cW : Calls K mg "_law_word" (He.ga K "_law_word") := ⟨He.glo_ok X G (c.fact 3 (f := .glo "_law_word") rfl), FW.kp⟩
  have bW : Binds K fdW ["_law_source_here"] [] := FW.binds fun _ _ _ _ _ _ us hl => match us, hl with | [_], _ => rfl
  obtain ⟨fdO, FO⟩ := fun_of c 4 (p := ("_law_other", none)) (x := "_law_other") (q := "_law_other") (st := sOther) rfl
  have cO : Calls K mg "_law_other" (He.ga K "_law_other") := ⟨He.glo_ok X G (c.fact 4 (f := .glo "_law_other") rfl), FO.kp⟩
  have bO : Binds K fdO ["_law_source_here"] [] := FO.binds fun _ _ _ _ _ _ us hl => match us, hl with | [_], _ => rfl
  obtain ⟨fdN, FN⟩ := fun_of c 5 (p := ("_law_is_name", none)) (x := "_law_is_name") (q := "_law_is_name") (st := sLIsName) rfl
  have cN : Calls K mg "_law_is_name" (He.ga K "_law_is_name") := ⟨He.glo_ok X G (c.fact 5 (f := .glo "_law_is_name") rfl), FN.kp⟩
  have bN : Binds K fdN ["_law_it"] [] := FN.binds fun _ _ _ _ _ _ us hl => match us, hl with | [_], _ => rfl
  obtain ⟨fdM, FM⟩ := fun_of c 6 (p := ("_law_are_names", none)) (x := "_law_are_names") (q := "_law_are_names") (st := sLAreNames) rfl
  have cM : Calls K mg "_law_are_names" (He.ga K "_law_are_names") := ⟨He.glo_ok X G (c.fact 6 (f := .glo "_law_are_names") rfl), FM.kp⟩
  have bM : Binds K fdM ["_law_it"] [] := FM.binds fun _ _ _ _ _ _ us hl => match us, hl with | [_], _ => rfl
  obtain ⟨fdY, FY⟩ := fun_of c 7 (p := ("_law_key_right", none)) (x := "_law_key_right") (q := "_law_key_right") (st := sLKey) rfl
  have cY : Calls K mg "_law_key_right" (He.ga K "_law_key_right") := ⟨He.glo_ok X G (c.fact 7 (f := .glo "_law_key_right") rfl), FY.kp⟩
  have bY : Binds K fdY ["_law_picked", "_law_columns"] [] := FY.binds fun _ _ _ _ _ _ us hl => match us, hl with | [_, _], _ => rfl
  obtain ⟨fdR, FR⟩ := fun_of c 8 (p := ("_law_right", none)) (x := "_law_right") (q := "_law_right") (st := sRight) rfl
  have cR : Calls K mg "_law_right" (He.ga K "_law_right") := ⟨He.glo_ok X G (c.fact 8 (f := .glo "_law_right") rfl), FR.kp⟩
  have bR : Binds K fdR ["_law_title", "_law_labels", "_law_figures", "_law_picked"] [] := FR.binds fun _ _ _ _ _ _ us hl => match us, hl with | [_, _, _, _], _ => rfl
  obtain ⟨fdV, FV⟩ := fun_of c 9 (p := ("_law_valid", none)) (x := "_law_valid") (q := "_law_valid") (st := sValid) rfl
  have cV : Calls K mg "_law_valid" (He.ga K "_law_valid") := ⟨He.glo_ok X G (c.fact 9 (f := .glo "_law_valid") rfl), FV.kp⟩
  have bV : Binds K fdV ["_law_source_here"] [] := FV.binds fun _ _ _ _ _ _ us hl => match us, hl with | [_], _ => rfl
  obtain ⟨fdB, FB⟩ := fun_of c 10 (p := ("_law_bent", none)) (x := "_law_bent") (q := "_law_bent") (st := sBent) rfl
  have cB : Calls K mg "_law_bent" (He.ga K "_law_bent") := ⟨He.glo_ok X G (c.fact 10 (f := .glo "_law_bent") rfl), FB.kp⟩
  have bB : Binds K fdB ["_law_source_here", "_law_it"] [] := FB.binds fun _ _ _ _ _ _ us hl => match us, hl with | [_, _], _ => rfl
  obtain ⟨fdH, FH⟩ := fun_of c 11 (p := ("_law_heard", none)) (x := "_law_heard") (q := "_law_heard") (st := sHeard) rfl
  have cH : Calls K mg "_law_heard" (He.ga K "_law_heard") := ⟨He.glo_ok X G (c.fact 11 (f := .glo "_law_heard") rfl), FH.kp⟩
  have bH : Binds K fdH ["_law_some", "_law_by_name"] [] := FH.binds fun _ _ _ _ _ _ us hl => match us, hl with | [_, _], _ => rfl
  obtain ⟨fdLr, FLr⟩ := fun_of c 12 (p := ("_law_row", none)) (x := "_law_row") (q := "_law_row") (st := sLRow) rfl
  have cLr : Calls K mg "_law_row" (He.ga K "_law_row") := ⟨He.glo_ok X G (c.fact 12 (f := .glo "_law_row") rfl), FLr.kp⟩
  have bLr : Binds K fdLr ["_law_source_here", "_law_some", "_law_far"] [] := FLr.binds fun _ _ _ _ _ _ us hl => match us, hl with | [_, _, _], _ => rfl
  obtain ⟨fdLi, FLi⟩ := fun_of c 13 (p := ("_law_is_row", none)) (x := "_law_is_row") (q := "_law_is_row") (st := sLIsRow) rfl
  have cLi : Calls K mg "_law_is_row" (He.ga K "_law_is_row") := ⟨He.glo_ok X G (c.fact 13 (f := .glo "_law_is_row") rfl), FLi.kp⟩
  have bLi : Binds K fdLi ["_law_some", "_law_it"] [] := FLi.binds fun _ _ _ _ _ _ us hl => match us, hl with | [_, _], _ => rfl
  obtain ⟨fdLc, FLc⟩ := fun_of c 14 (p := ("_law_clash", none)) (x := "_law_clash") (q := "_law_clash") (st := sLClash) rfl
  have cLc : Calls K mg "_law_clash" (He.ga K "_law_clash") := ⟨He.glo_ok X G (c.fact 14 (f := .glo "_law_clash") rfl), FLc.kp⟩
  have bLc : Binds K fdLc ["_law_some", "_law_item", "_law_twin"] [] := FLc.binds fun _ _ _ _ _ _ us hl => match us, hl with | [_, _, _], _ => rfl
  obtain ⟨fdRr, FRr⟩ := fun_of c 15 (p := ("_law_rows_right", none)) (x := "_law_rows_right") (q := "_law_rows_right") (st := sRows) rfl
  have cRr : Calls K mg "_law_rows_right" (He.ga K "_law_rows_right") := ⟨He.glo_ok X G (c.fact 15 (f := .glo "_law_rows_right") rfl), FRr.kp⟩
  have bRr : Binds K fdRr ["_law_source_here", "_law_table", "_law_some"] [] := FRr.binds fun _ _ _ _ _ _ us hl => match us, hl with | [_, _, _], _ => rfl
  obtain ⟨fdEr, FEr⟩ := fun_of c 16 (p := ("_law_equal_right", none)) (x := "_law_equal_right") (q := "_law_equal_right") (st := sEqR) rfl
  have cEr : Calls K mg "_law_equal_right" (He.ga K "_law_equal_right") := ⟨He.glo_ok X G (c.fact 16 (f := .glo "_law_equal_right") rfl), FEr.kp⟩
  have bEr : Binds K fdEr ["_law_source_here", "_law_table", "_law_some"] [] := FEr.binds fun _ _ _ _ _ _ us hl => match us, hl with | [_, _, _], _ => rfl
  obtain ⟨fdTr, FTr⟩ := fun_of c 17 (p := ("_law_table_right", none)) (x := "_law_table_right") (q := "_law_table_right") (st := sTabR) rfl
  have cTr : Calls K mg "_law_table_right" (He.ga K "_law_table_right") := ⟨He.glo_ok X G (c.fact 17 (f := .glo "_law_table_right") rfl), FTr.kp⟩
  have bTr : Binds K fdTr ["_law_source_here", "_law_some"] [] := FTr.binds fun _ _ _ _ _ _ us hl => match us, hl with | [_, _], _ => rfl
  obtain ⟨fdDr, FDr⟩ := fun_of c 18 (p := ("_law_defaults_right", none)) (x := "_law_defaults_right") (q := "_law_defaults_right") (st := sDef) rfl
  have cDr : Calls K mg "_law_defaults_right" (He.ga K "_law_defaults_right") := ⟨He.glo_ok X G (c.fact 18 (f := .glo "_law_defaults_right") rfl), FDr.kp⟩
  have bDr : Binds K fdDr ["_law_word_here"] [] := FDr.binds fun _ _ _ _ _ _ us hl => match us, hl with | [_], _ => rfl
  obtain ⟨fdZ, FZ⟩ := fun_of c 19 (p := ("law", none)) (x := "law") (q := "law") (st := sLaw) rfl
  have cZ : Calls K mg "law" (He.ga K "law") := ⟨He.glo_ok X G (c.fact 19 (f := .glo "law") rfl), FZ.kp⟩
  have bZ : Binds K fdZ ["_law_script"] [] := FZ.binds fun _ _ _ _ _ _ us hl => match us, hl with | [_], _ => rfl
  obtain ⟨fdNu, FNu⟩ := fun_of c 20 (p := ("is_number", none)) (x := "is_number") (q := "is_number") (st := sIsNum) rfl
  have cNu : Calls K mg "is_number" (He.ga K "is_number") := ⟨He.glo_ok X G (c.fact 20 (f := .glo "is_number") rfl), FNu.kp⟩
  have bNu : Binds K fdNu ["thing"] [] := FNu.binds fun _ _ _ _ _ _ us hl => match us, hl with | [_], _ => rfl
  obtain ⟨fdNm, FNm⟩ := fun_of c 21 (p := ("is_name", none)) (x := "is_name") (q := "is_name") (st := sIsName) rfl
  have cNm : Calls K mg "is_name" (He.ga K "is_name") := ⟨He.glo_ok X G (c.fact 21 (f := .glo "is_name") rfl), FNm.kp⟩
  have bNm : Binds K fdNm ["thing"] [] := FNm.binds fun _ _ _ _ _ _ us hl => match us, hl with | [_], _ => rfl
  obtain ⟨fdCo, FCo⟩ := fun_of c 22 (p := ("_are_columns", none)) (x := "_are_columns") (q := "_are_columns") (st := sAreCols) rfl
  have cCo : Calls K mg "_are_columns" (He.ga K "_are_columns") := ⟨He.glo_ok X G (c.fact 22 (f := .glo "_are_columns") rfl), FCo.kp⟩
  have bCo : Binds K fdCo ["names", "numbers"] [] := FCo.binds fun _ _ _ _ _ _ us hl => match us, hl with | [_, _], _ => rfl
  obtain ⟨fdNs, FNs⟩ := fun_of c 23 (p := ("_are_names", none)) (x := "_are_names") (q := "_are_names") (st := sAreNames) rfl
  have cNs : Calls K mg "_are_names" (He.ga K "_are_names") := ⟨He.glo_ok X G (c.fact 23 (f := .glo "_are_names") rfl), FNs.kp⟩
  have bNs : Binds K fdNs ["thing"] [] := FNs.binds fun _ _ _ _ _ _ us hl => match us, hl with | [_], _ => rfl
  obtain ⟨fdKe, FKe⟩ := fun_of c 24 (p := ("_is_key", none)) (x := "_is_key") (q := "_is_key") (st := sIsKey) rfl
  have cKe : Calls K mg "_is_key" (He.ga K "_is_key") := ⟨He.glo_ok X G (c.fact 24 (f := .glo "_is_key") rfl), FKe.kp⟩
  have bKe : Binds K fdKe ["thing", "columns"] [] := FKe.binds fun _ _ _ _ _ _ us hl => match us, hl with | [_, _], _ => rfl
  obtain ⟨fdMr, FMr⟩ := fun_of c 25 (p := ("Table", some "is_row")) (x := "is_row") (q := "Table.is_row") (st := sIsRow) rfl
  have bMr : Binds K fdMr ["self", "thing"] [] := FMr.binds fun _ _ _ _ _ _ us hl => match us, hl with | [_, _], _ => rfl
  have mMr : Meth K (aC K) "is_row" (He.ma K (aC K) "is_row") := He.meth_ok (c.fact 50 (f := .meth "Table" "is_row") rfl)
  obtain ⟨fdMc, FMc⟩ := fun_of c 26 (p := ("Table", some "clash")) (x := "clash") (q := "Table.clash") (st := sClash) rfl
  have bMc : Binds K fdMc ["self", "one", "other"] [] := FMc.binds fun _ _ _ _ _ _ us hl => match us, hl with | [_, _, _], _ => rfl
  have mMc : Meth K (aC K) "clash" (He.ma K (aC K) "clash") := He.meth_ok (c.fact 51 (f := .meth "Table" "clash") rfl)
  obtain ⟨fdMe, FMe⟩ := fun_of c 27 (p := ("Table", some "__eq__")) (x := "__eq__") (q := "Table.__eq__") (st := sEq) rfl
  have bMe : Binds K fdMe ["self", "other"] [] := FMe.binds fun _ _ _ _ _ _ us hl => match us, hl with | [_, _], _ => rfl
  have mMe : Meth K (aC K) "__eq__" (He.ma K (aC K) "__eq__") := He.meth_ok (c.fact 52 (f := .meth "Table" "__eq__") rfl)
  obtain ⟨fdG, FG⟩ := fnAt_ok (x := "columns") (q := "Table.columns") (st := sColumns) eG z4
  have bG : Binds K fdG ["self"] [] := FG.binds fun _ _ _ _ _ _ us hl => match us, hl with | [_], _ => rfl
  have pp : PropOf K (aC K) "columns" (pA K) (gA K) := ⟨He.eqO_ok z5, of_decide_eq_true z6, of_decide_eq_true z7, recB_ok z8⟩
  obtain ⟨fdI, FI⟩ := He.DefD.funD (d := dInit) eI z1
  have FI : FunD K "__init__" "Table.__init__" (defArgs sInit) (defBody sInit) (defScope sInit) [.ref (d0 K), .ref (d1 K)] [] (He.ma K (aC K) "__init__") fdI := FI
  obtain ⟨ds0, v0, bI⟩ := FI.binds1 (ps := ["self", "name", "names", "numbers", "key"]) 5 2 (by simp) rfl fun T kV doc pm an cdv ct us its l1 l2 => match us, its, l1, l2 with | [_, _, _, _, _], [_, _], _, _ => ⟨_, rfl, rfl⟩
  cases v0
  obtain ⟨ds1, v1, bI1⟩ := FI.binds1 (ps := ["self", "name", "names", "numbers", "key"]) 3 0 (by simp) rfl fun T kV doc pm an cdv ct us its l1 l2 => match us, its, l1, l2 with | [_, _, _], [_, _], _, _ => ⟨_, rfl, rfl⟩
  obtain ⟨ds2, v2, bI2⟩ := FI.binds1 (ps := ["self", "name", "names", "numbers", "key"]) 4 1 (by simp) rfl fun T kV doc pm an cdv ct us its l1 l2 => match us, its, l1, l2 with | [_, _, _, _], [_, _], _, _ => ⟨_, rfl, rfl⟩
  obtain ⟨itsK, kI⟩ := FI.kbindsD (ps := ["self", "name", "names", "numbers", "key"]) 1 ["key", "numbers", "names", "name"] gKwA (by simp) (fun a b d => gKwA_rel a b d) fun T kV doc pm an cdv ct us its ws l1 l2 l3 => match us, its, ws, l1, l2, l3 with | [_], [_, _], [_, _, _, _], _, _, _ => ⟨_, rfl, rfl⟩
  rw [gKwA_V] at kI
  have kNm : KBinds K fdNm ["thing"] ["thing"] hw0 kw0 := FNm.kb (fun _ _ _ _ _ _ us ws hl => match us, ws, hl with | [], [_], _ => rfl) hw0_rel
  have kMr : KBinds K fdMr ["self", "thing"] ["thing"] hw1 kw1 := FMr.kb (fun _ _ _ _ _ _ us ws hl => match us, ws, hl with | [_], [_], _ => rfl) hw1_rel
  have kMc : KBinds K fdMc ["self", "one", "other"] ["other", "one"] hw2 kw2 := FMc.kb (fun _ _ _ _ _ _ us ws hl => match us, ws, hl with | [_], [_, _], _ => rfl) hw2_rel
  have fr : ∀ {x : Str}, He.Fa.ok K (.free x) = true → mg x = none := fun c => He.free_ok X G c
  have TA : TxtA K mg := ⟨fr (c.fact 36 (f := .free "list") rfl), fr (c.fact 33 (f := .free "len") rfl), fr (c.fact 37 (f := .free "range") rfl), fr (c.fact 32 (f := .free "tuple") rfl)⟩
  have TL : TxtL K mg (He.ga K "_law_draw") (He.ga K "_law_pick") := ⟨TA, cD.g, cD.k, cP.g, cP.k⟩
  have TP : TxtP K mg (He.ga K "is_name") (He.ga K "_are_names") := ⟨fr (c.fact 28 (f := .free "isinstance") rfl), fr (c.fact 29 (f := .free "int") rfl), fr (c.fact 30 (f := .free "bool") rfl), fr (c.fact 31 (f := .free "str") rfl), fr (c.fact 32 (f := .free "tuple") rfl), fr (c.fact 33 (f := .free "len") rfl), fr (c.fact 34 (f := .free "all") rfl), fr (c.fact 35 (f := .free "set") rfl), He.int_ok X G (c.fact 43 (f := .int "_LONGEST_NAME" 8) rfl), He.int_ok X G (c.fact 44 (f := .int "_MOST_COLUMNS" 2) rfl), cNm.g, cNm.k, cNs.g, cNs.k⟩
  obtain ⟨x1, x2, x3, x4⟩ := He.exc_ok (c.fact 54 (f := .exc "InvalidTable") rfl)
  have gC := He.glo_ok X G (c.fact 25 (f := .glo "Table") rfl)
  have gI := He.glo_ok X G (c.fact 26 (f := .glo "InvalidTable") rfl)
  have gT := He.glo_ok X G (c.fact 27 (f := .glo "TurnError") rfl)
  have M := He.mkr_ok (c.fact 53 (f := .mkr "Table") rfl)
  have TT : TxtT K mg (aC K) (aI K) (He.ga K "_are_columns") (He.ga K "_is_key") := ⟨He.cls_ok (c.fact 45 (f := .cls "Table") rfl), He.noat_ok (c.fact 46 (f := .noat "Table" "name") rfl), He.noat_ok (c.fact 47 (f := .noat "Table" "names") rfl), He.noat_ok (c.fact 48 (f := .noat "Table" "numbers") rfl), He.noat_ok (c.fact 49 (f := .noat "Table" "key") rfl), gC, gI, x2, x1, x3, x4, cCo.g, cCo.k, cKe.g, cKe.k⟩
  have kT : ∀ t : Tr, PySem.W.kitOne K (.type (tyOf t)) (.ref (aC K)) = some false := fun t => of_decide_eq_true (tyNames_all z14 t)
  have nf : ∀ t : Tr, PySem.W.notFirst K (aC K) (.type (tyOf t)) = true := fun t => tyNames_all z15 t
  have no : ∀ t : Tr, PySem.W.subIn K (.ref (aC K)) (.type (tyOf t)) = some false := fun t => of_decide_eq_true (tyNames_all z16 t)
  have TO : TxtO K (aC K) := ⟨of_decide_eq_true z9, of_decide_eq_true z10, of_decide_eq_true z11, of_decide_eq_true z12, of_decide_eq_true z13, kT⟩
  have TR : TxtR K mg (He.ga K "_law_is_name") (He.ga K "_law_are_names") (He.ga K "_law_key_right") := ⟨cN.g, cN.k, cM.g, cM.k, cY.g, cY.k⟩
  have TV : TxtV K mg (He.ga K "_law_word") := ⟨cW.g, cW.k, fr (c.fact 40 (f := .free "min") rfl), fr (c.fact 41 (f := .free "max") rfl)⟩
  have TE : TxtE K mg (He.ga K "_law_other") := ⟨cO.g, cO.k⟩
  have TH : TxtH K mg (aI K) (He.ga K "TurnError") := ⟨gT, fr (c.fact 42 (f := .free "ValueError") rfl), ⟨of_decide_eq_true z18, of_decide_eq_true z19, x3, z20, of_decide_eq_true z21, of_decide_eq_true z10, of_decide_eq_true z11, of_decide_eq_true z22⟩, He.exm_ok (c.fact 55 (f := .exm "InvalidTable" "InvalidTable" true) rfl), of_decide_eq_true z23, of_decide_eq_true z⟩
  have rp := fr (c.fact 38 (f := .free "repr") rfl)
  have en := fr (c.fact 39 (f := .free "enumerate") rfl)
  have TW : TxtW K mg (aC K) (He.ga K "_law_row") (He.ga K "_law_is_row") (He.ga K "_law_clash") (He.ma K (aC K) "is_row") (He.ma K (aC K) "clash") := ⟨cLr.g, cLr.k, cLi.g, cLi.k, cLc.g, cLc.k, rp, mMr, mMc⟩
  have TQ : TxtQ K mg (aC K) (He.ma K (aC K) "__eq__") (He.ga K "_law_valid") (He.ga K "_law_right") := ⟨mMe.at_, of_decide_eq_true z17, of_decide_eq_true z12, mMe.fn, nf, no, cV.g, cV.k, cR.g, cR.k, rp⟩
  have hz : f = He.ga K "law" := by
    have e := hf.symm.trans cZ.g
    injection e with e
    injection e
  subst hz
  refine ⟨fdZ, fun s v => ?_, fun base kb nb => ?_⟩
  · obtain ⟨oc, od, kV, doc, pm, an, cdv, ct, osl, rfl, lk, hcd⟩ := FZ.ex
    exact .of_eq rfl
  have GS := ok_source (P := P) (w := w) (base := base) FS TA
  have GD := ok_draw (P := P) (w := w) (mg := mg) (base := base) FD
  have GP := ok_pick FP TL GD bD
  have GW := ok_word FW TL GD bD GP bP
  have GO := ok_other FO TL GD bD GP bP
  have GN := ok_lisname (P := P) (w := w) (base := base) FN TP
  have GM := ok_larenames FM TP GN cN.g cN.k bN
  have GY := ok_lkey (P := P) (w := w) (base := base) FY TP
  have GR := ok_right FR TP TR GN bN GM bM GY bY
  have GV := ok_valid FV TL TV GD bD GW bW
  have GB := ok_bent FB TL TV TE TP GD bD GW bW GO bO
  have GNm := ok_isname (P := P) (w := w) (base := base) FNm TP
  have GNu := ok_isnum (P := P) (w := w) (base := base) FNu TP
  have GNs := ok_arenames FNs TP GNm bNm
  have GCo := ok_arecols FCo TP GNs bNs
  have GKe := ok_iskey (P := P) (w := w) (base := base) FKe TP
  have GI := ok_init FI TP TT GNm bNm GCo bCo GKe bKe
  have GMr := ok_isrow FMr TP TT GNm bNm GNu cNu.g cNu.k bNu
  have GG := ok_columns (P := P) (w := w) (base := base) FG TT
  have GMc := ok_clash FMc TP TT en pp GG bG
  have GMe := ok_eq (P := P) (w := w) (base := base) FMe TP TT TO
  have GH := ok_heard FH TP TT TH M GI bI kI
  have GLr := ok_lrow FLr TL GP bP
  have GLi := ok_lisrow FLi TP en GN cN.g cN.k bN
  have GLc := ok_lclash (P := P) (w := w) (base := base) FLc TP
  have GRr := ok_rows FRr TL TE TP TT TW GD bD GO bO GLr bLr GLi bLi GLc bLc GMr bMr kMr GMc bMc kMc
  have GEr := ok_eqr FEr TL TT TQ M GD bD GI bI GMe bMe GV bV GR bR
  have GTr := ok_tabr FTr TP TT TO rp cR GR bR cH GH bH cRr GRr bRr cEr GEr bEr pp GG bG
  have GDr := ok_def FDr TT TO M rp GI bI1 v1 bI2 v2 (ktupB_ok z2) (ktupB_ok z3) mMe.at_ mMe.fn nf GMe bMe mMc GMc bMc pp GG bG
  exact ok_law FZ TL rp GD bD GP bP cS GS bS cW GW bW cO GO bO cN GN bN cV GV bV cB GB bB cTr GTr bTr cDr GDr bDr cNm GNm bNm kNm
end
end Vm
open PySem PySem.W PyProof.Rows in
set_option maxRecDepth 100000 in
set_option maxHeartbeats 0 in
theorem PySem.Challenge.cw_whatturns_k02_tables_rows_and_clashes_holds : PySem.Challenge.rw_whatturns_k02_tables_rows_and_clashes.Holds := by
  w_on; o_law; k_head; (case hw => w_witness2)
  k_fill
  refine Vm.walkG (l := PySem.Challenge.rw_whatturns_k02_tables_rows_and_clashes) (n := 63) (k := 8) (x := "_law_script") (sp := Vm.spLaw) rfl (by decide) rfl ⟨rfl, by decide, by decide⟩ (fun w h Y => PySem.W.kIn_of Y) ?F (fun K H a ns short _ hS => ⟨a, ns, rfl, hS, short, fun _ => rfl⟩)
  case F =>
    intro w mg fa h KX G hmg
    refine Vm.all_of KX G ?says ?chk ?eI ?eG hmg
    case says =>
      show He.obsE Vm.faL Vm.fnL _ = He.valE Vm.fnL
      kernel_rfl
    case chk => kernel_rfl
    case eI => kernel_rfl
    case eG => kernel_rfl
