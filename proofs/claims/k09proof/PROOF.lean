import PyProof.Rows.All
import Wide.All
import OpenK.AllK
import Wide.FinOn
import HandS.ForMost
import HandS.Conv
import HandS.More
import HandS.ExcOwn
import PySem.Challenge.RW_whatturns_k09_texts_of_no_question
import HandS.TupAny
import HandS.Style
import HandS.IsInst
import HandS.StrMore
import KE.KEqDict
import PyProof.Rows.SetObj
import HandS.Base
import HandS.Call
import HandS.List
import HandS.Strs
import HandS.ForExc
import HandS.Defaults
import HandS.ExcInit
import HandS.ExcValue
import HandS.ExcValueHot
import HandS.ExcCtx
import HandS.ExcIs
import HandS.TryMany
import KE.GoesMore
import PyProof.EnumMake
import PyProof.EnumFor
import PyProof.Draws
import HandS.Iter
import HandS.Walk
import HandS.Property
import HandS.Text
import KE.DataEq
import KE.DataFind
import KE.SortCalls
import KE.DataMinMax
import KE.KUnpackStar
import KE.KExcIs
import HandS.ExcField
import HandS.Star
import HandS.SetBool
import HandS.SetKeys
import HandS.ClsMeth
import HandS.DictComp
import HandS.NoneIn
import HandS.TryOnly
import KE.KRevSl
import HandS.TupMul
import HandS.ExcValueFrom
import HandS.RaiseFrom
import HandS.SuiteRaise
import HandS.SlotsOwn
import PyProof.NeKinds
import HandS.OwnEq
import HandS.DictEq
import HandS.Set
import HandS.WordsExc
import PyProof.Rows.StrIf
import PyProof.StrLawsAffix
import KE.GoesComp
import KE.GoesRaise
import KE.KAsSuite
import HandS.CallLocal
import HandS.Replace
import PyProof.StrBlock2
import PyProof.MeetsStr3
import PyProof.ToksMono
import HandS.HeadHook1
import HandS.HeadHook2
import HandS.HeadHook3
set_option Elab.async false
set_option linter.all false
set_option maxRecDepth 100000
set_option maxHeartbeats 8000000
namespace Vm
open PySem PySem.Spec PyProof.Rows L2
/-- a promise that may lean on: no repr is under way -/
structure FnG (P : Program) (w : World) (K : PySem.W.Frag) (mg : Str → Option Value) (base : Heap) (CX : CXT) (k : Nat) (f : Addr) (fd : FuncData) (ps : List Str) (sp : Sp) : Prop where
  lenG : ∀ vs H Q E, sp vs H Q E → vs.length = ps.length
  runG : ∀ (A : Around) (below : List Env) (s : Shared) (H : Hp) (gs : Args) (us : List Value) (vs : List V) (Q : VK) (E : XK), A.guards = some [] → Room k A → Env0 P w K mg base A below s H → BindsTo s fd gs (ps.zip us) → Vals vs us →
    sp vs H Q E → codeAny (model P w) A (.call (.ref f) gs) (CR CX below P w H s Q E) s
section
variable {P : Program} {w : World} {K : PySem.W.Frag} {mg : Str → Option Value} {base : Heap}
theorem okG {CX : CXT} {x qual : Str} {st : Stmt} {f : Addr} {fd : FuncData} {N ps : List Str} {k : Nat} {sp : Sp} (F : Fun K x qual st f fd) (S : FnScope N ps (defScope st)) (len : ∀ vs H Q E, sp vs H Q E → vs.length = ps.length)
    (hbody : ∀ (cdv : Value) (A : Around) (below : List Env) (s : Shared) (H : Hp) (vs : List V) (Q : VK) (E : XK), A.guards = some [] → Room k (A.deeper (envOfC qual (defScope st) s.heap.objs.size f cdv)) → sp vs H Q E →
      ∃ t, PSs (cxOf CX P w K mg base N qual (defScope st) f cdv A below s H E) (defBody st) t ∧ t { nx := fun _ H' => Q .non H', rt := Q } (start N vs) H) : FnG P w K mg base CX (k + 1) f fd ps sp := by
  obtain ⟨oc, od, kV, doc, pm, an, cdv, ct, osl, rfl, lk, hcd⟩ := F.ex
  constructor
  · exact len
  intro A below s H gs us vs Q E ag room z bd rel want
  have KX : K.In s.heap := z.mod.kin.keeps fun b o e => (z.bs b o e).1
  have calm : s.heap.NoLimit := z.mod.nolimit.keeps fun b o e => (z.bs b o e).1
  have kinds : ∀ y ∈ ps.zip us, (defScope st).names.lookup y.1 = some .local ∨ ((defScope st).names.lookup y.1 = some .cell ∧ ((cellsFrom (s.heap.objs.size + 1) (defScope st).names []).lookup y.1).isSome = true) := by
    rintro ⟨n, v⟩ hy
    exact (S.par n (List.of_mem_zip hy).1).imp id fun q => ⟨q, PySem.W.cellsFrom_some _ _ _ (.inl q)⟩
  refine codeAny_call_function room.depth (KX _ _ lk) rfl S.co S.gen rfl (PySem.W.codeRec_of KX hcd) (bd _ _ _ _ ?_)
  refine wpAny_newFunctionEnv_cells S.kind kinds fun env same s1 x => ?_
  cases same
  refine ⟨calm.keeps x.toInCall.keep, codeAny_func ?_⟩
  obtain ⟨t, ht, go⟩ := hbody cdv A below s H vs Q E ag (room.deeper _) want
  have J := inv_start (CX := CX) (E := E) (P := P) (w := w) (K := K) (mg := mg) S room.hd z (len _ _ _ _ want) rel x
  refine wpAny_mono (ht.run [] s1 (start N vs) H _ J go) (fun fl s' got => ?_) fun _ _ got => got
  cases fl with
  | ret u => exact let ⟨v, _, H', J', rv, q⟩ := got; ⟨v, H', J'.os, J'.bare, J'.base, J'.hok, rv, q⟩
  | next => exact let ⟨_, H', J', q⟩ := got; ⟨.non, H', J'.os, J'.bare, J'.base, J'.hok, rfl, q⟩
  | brk => exact (let ⟨_, _, _, q⟩ := got; q : False).elim
  | cont => exact (let ⟨_, _, _, q⟩ := got; q : False).elim
theorem okG0 {x qual : Str} {st : Stmt} {f : Addr} {fd : FuncData} {N ps : List Str} {k : Nat} {sp : Sp} (F : Fun K x qual st f fd) (S : FnScope N ps (defScope st)) (len : ∀ vs H Q E, sp vs H Q E → vs.length = ps.length)
    (hbody : ∀ (cdv : Value) (A : Around) (below : List Env) (s : Shared) (H : Hp) (vs : List V) (Q : VK) (E : XK), A.guards = some [] → Room k (A.deeper (envOfC qual (defScope st) s.heap.objs.size f cdv)) → sp vs H Q E →
      ∃ t, PSs (cxOf CX0 P w K mg base N qual (defScope st) f cdv A below s H E).nox (defBody st) t ∧ t { nx := fun _ H' => Q .non H', rt := Q } (start N vs) H) : FnG P w K mg base CX0 (k + 1) f fd ps sp :=
  okG F S len fun cdv A below s H vs Q E ag room want => (hbody cdv A below s H vs Q E ag room want).imp fun t h => ⟨h.1.nox, h.2⟩
end
section
variable {X : Cx} {CX : CXT} {k : Nat} {f : Addr} {fd : FuncData} {ps : List Str} {sp : Sp} {x : Str} {p pos : Pos} {e : Expr} {es : List Expr} {t : TA}
theorem pe_callG (F : FnG X.prog X.w X.K X.mg X.base CX0 k f fd ps sp) (ag : X.A.guards = some []) (room : Room k X.A) (hg : Gl X x) (hm : X.mg x = some (.ref f)) (hk : PySem.W.keepIn X.K (.ref f) = true) (hb : Binds X.K fd ps [])
    (ha : PA X (e :: es) t) (nd : (x == ("__debug__" : Str)) = false := by decide) (one : starEach (e :: es) X.env = (false, eval e X.env) :: starEach es X.env := by rfl) (plain : (backTo pos (starEach es X.env)).any (·.1) = false := by rfl) :
    PE X (.Call (.Name x p) (e :: es) [] pos) (tCall sp [] E0 t) := by
  constructor
  intro pins s σ H Q I h
  refine wpAny_Call_Name_kw (ld_glob I hg hm (PySem.W.callWith_K (h₀ := X.base) I.ok.mod.kin hk (thn (ha.run pos pins s σ H _ I h) ?_) one plain) nd)
  rintro us s1 ⟨vs, H1, I1, rel, want⟩
  rw [List.append_nil] at want
  refine ⟨I1.kIn, wpAny_call (codeAny_mono (F.runG X.A X.stack s1 H1 ⟨us, []⟩ us vs Q E0 ag room I1.env0 ?_ rel want) ?_)⟩
  · have z := hb s1 us I1.kIn (by rw [List.append_nil, ← rel.length]; exact F.lenG _ _ _ _ want)
    rwa [List.append_nil] at z
  · intro r s' got
    match r, got with
    | .ok (.ret u), got => exact I1.after got
end
/-- the call of the law itself -/
theorem law_callG {P : Program} {w : World} {K : PySem.W.Frag} {mg mb : Str → Option Value} {k : Nat} {fa a : Addr} {fd : FuncData} {x : Str} {sp : Sp} {s₁ : Shared} {vs : List Value} {ns : List Int}
    (KX : K.In s₁.heap) (hns : s₁.heap.Ns mainGlobals mg) (hb : s₁.heap.Ns builtinsNs mb) (hbb : ∀ x : Str, x ≠ "__name__" → mb x = bootBuiltins x) (hlim : s₁.heap.NoLimit) (hg : s₁.gens = #[])
    (ha : s₁.heap.get? a = some { cls := .type "list", data := .seq vs.toArray }) (hi : IntsAre vs ns) (hl : ns.length ≤ sizeLine) (room : Room k callerA)
    (F : ∀ base : Heap, K.In base → base.Ns mainGlobals mg → FnG P w K mg base CX0 k fa fd [x] sp) (bd : ∀ (s : Shared) (u : Value), BindsTo s fd ⟨[u], []⟩ [(x, u)])
    (want : ∀ H : Hp, Only H → SqL K H a (ns.map V.int) → sp [.ref a] H (fun v _ => v = .bl true) fun _ _ _ => False) :
    codeAny (model P w) callerA (.call (.ref fa) ⟨[.ref a], []⟩) (fun r s' => r = .ok (.ret (.bool true)) ∧ OldK s₁.heap s'.heap ∧ s'.os = s₁.os ∧ AllBare s'.gens) s₁ := by
  have key : ∀ H : Hp, (∀ b u, H b = some u → b = a ∧ K.lookup a = none ∧ ∃ o xs, u = .frz o (.lst xs)) → SqL K H a (ns.map V.int) → HOk P w H s₁.heap →
      codeAny (model P w) callerA (.call (.ref fa) ⟨[.ref a], []⟩) (fun r s' => r = .ok (.ret (.bool true)) ∧ OldK s₁.heap s'.heap ∧ s'.os = s₁.os ∧ AllBare s'.gens) s₁ := by
    intro H own hS hok
    have nonev : ∀ {b : Addr}, (∀ u, H b ≠ some u) → H b = none := fun {b} n => by
      cases q : H b with
      | none => rfl
      | some u => exact absurd q (n u)
    have only : Only H := fun b => by
      cases q : H b with
      | none => exact .inl rfl
      | some u => exact let ⟨_, _, o, xs, e⟩ := own b u q; .inr ⟨o, xs, by rw [e]⟩
    have space : ∀ {b : Addr} {m : Str → Option Value}, s₁.heap.Ns b m → (hidT s₁.heap H).Ns b m := by
      rintro b m ⟨o, es, ep, e, d, r⟩
      refine ⟨o, es, ep, hidT_get e (nonev fun u z => ?_), d, r⟩
      rw [(own b u z).1, ha] at e
      cases e
      cases d
    have kb : K.In (hidT s₁.heap H) := fun b o e => hidT_get (KX b o e) (nonev fun u z => by
      obtain ⟨rfl, q, _⟩ := own b u z
      rw [q] at e
      cases e)
    obtain ⟨mc, c1, c2⟩ := hlim
    have z0 : Env0 P w K mg (hidT s₁.heap H) callerA [] s₁ H :=
      { frames := rfl, mod := ⟨kb, space hns, ⟨mb, space hb, hbb⟩, ⟨mc, space c1, c2⟩⟩, bs := fun b o e => of_hidT e, bsz := Nat.le_of_eq (hidT_size _ _), funs := trivial, frf := fun b hb => absurd (show b ∈ ([] : List Addr) from hb) (by simp), hok := hok, bare := .of_eq hg }
    refine codeAny_mono ((F _ kb (space hns)).runG callerA [] s₁ H ⟨[.ref a], []⟩ [.ref a] [.ref a] _ _ rfl room z0 (bd s₁ (.ref a)) (.cons rfl .nil) (want H only hS)) ?_
    intro r s' got
    match r, got with
    | .ok (.ret u), got =>
      obtain ⟨v, H', os, bare, un, hok', rv, ev⟩ := got
      have ev' : v = .bl true := ev
      subst ev'
      obtain rfl : u = Value.bool true := rv
      refine ⟨rfl, OldK.of_keep fun b o e => ?_, os, bare⟩
      cases q : H b with
      | none => exact un.keep b o e q (fun z => nomatch (show b ∈ ([] : List Addr) from z)) (by simp)
      | some u =>
        obtain ⟨_, _, ob, xs, rfl⟩ := own b u q
        have e1 := (hok b _ q).1
        rw [e] at e1
        cases e1
        exact (hok' b _ (un.frzs b o _ q)).1
  have rel := vals_ints hi
  cases lk : K.lookup a with
  | some o =>
    have e := KX a o lk
    rw [ha] at e
    cases e
    exact key (fun _ => none) (fun b u z => nomatch (show (none : Option HO) = some u from z)) (.inr ⟨_, vs.toArray, _, lk, rfl, rfl, rfl, by rw [List.size_toArray, hi.length]; exact hl, by simpa using rel⟩) (fun b u z => nomatch (show (none : Option HO) = some u from z))
  | none =>
    have at_a : ∀ {b : Addr} {u : HO}, (if b = a then some (HO.frz { cls := .type "list", data := .seq vs.toArray } (.lst (ns.map V.int))) else none) = some u → b = a ∧ u = .frz { cls := .type "list", data := .seq vs.toArray } (.lst (ns.map V.int)) := fun {b u} z => by
      split at z
      · rename_i e
        exact ⟨e, (Option.some.inj z).symm⟩
      · cases z
    refine key (fun b => if b = a then some (.frz { cls := .type "list", data := .seq vs.toArray } (.lst (ns.map V.int))) else none) (fun b u z => ⟨(at_a z).1, lk, _, _, (at_a z).2⟩) (.inl (.inr ⟨_, if_pos rfl⟩)) (fun b u z => ?_)
    obtain ⟨rfl, rfl⟩ := at_a z
    exact ⟨ha, by rw [List.length_map]; exact hl, vs, _, rel, ha⟩
theorem walkG {l : PySem.W.OpenLaw} {n k : Nat} {q : Program} {loose : List Str} {XP : (Str → Option Value) → Heap → Prop} {YP : World → Heap → Prop} {d : DefRec} {K : Params → PySem.W.Frag} {sp : PySem.W.Frag → Sp} {x : Str}
    (most : l.most = some n) (n0 : n ≤ sizeLine) (nodef : d.params.defaults = []) (room : Room k callerA) (inY : ∀ (w : World) (h : Heap), YP w h → (K w.params).In h)
    (F : ∀ (w : World) (mg : Str → Option Value) (fa : Addr) (h : Heap), (K w.params).In h → h.Ns mainGlobals mg → mg d.name = some (.ref fa) →
      ∃ fd : FuncData, (∀ (s : Shared) (u : Value), BindsTo s fd ⟨[u], []⟩ [(x, u)]) ∧ ∀ base : Heap, (K w.params).In base → base.Ns mainGlobals mg → FnG l.prog w (K w.params) mg base CX0 k fa fd [x] (sp (K w.params)))
    (want : ∀ (K : PySem.W.Frag) (H : Hp) (a : Addr) (ns : List Int), ns.length ≤ n → Only H → SqL K H a (ns.map V.int) → sp K [.ref a] H (fun v _ => v = .bl true) fun _ _ _ => False) :
    PySem.W.WalkO q loose XP YP l.row.toRowW d [] (fun f vs => PySem.call f vs) := by
  refine Att.attach_call most nodef ?_
  intro w s₀ s₁ mg mb fa o pm cd doc a vs ns G Y _ _ _ hmg hobj wh short gens
  have KX := inY w _ Y
  obtain ⟨fd, bd, ok⟩ := F w mg fa _ KX G.T.g hmg
  exact law_callG KX G.T.g G.T.b G.T.builtins G.T.nolimit gens hobj wh (Nat.le_trans short n0) room ok bd fun H o hS => want (K w.params) H a ns short o hS
end Vm
namespace Vm
open PySem L2
/-! the text by places -/
def top (i : Nat) : Stmt := PySem.Challenge.pw_whatturns_k09_texts_of_no_question.main.body.getD i (.Pass ⟨0, 0, 0, 0⟩)
abbrev sSource : Stmt := top 46
abbrev sDraw : Stmt := top 47
abbrev sPick : Stmt := top 48
/-- a source of draws stands at s: its list of numbers at l, the stirred number z, the count b -/
structure Src (H : Hp) (s l : Addr) (ms : List Int) (z b : Int) : Prop where
  hs : H s = some (.lst [.ref l, .int z, .int b])
  hl : H l = some (.lst (ms.map V.int))
  len : ms.length ≤ 63
theorem Src.ne {H : Hp} {s l : Addr} {ms : List Int} {z b : Int} (h : Src H s l ms z b) : s ≠ l := by
  intro e
  have h1 := h.hs
  rw [e, h.hl] at h1
  have h2 := Option.some.inj h1
  injection h2 with h3
  cases ms with
  | nil => cases h3
  | cons m r => 
    injection h3 with h4 _
    cases h4
/-- all but the source's two objects stands as before -/
def But (s l : Addr) (H H' : Hp) : Prop := ∀ b o, b ≠ s → b ≠ l → H b = some o → H' b = some o
theorem But.trans {s l : Addr} {H H1 H2 : Hp} (h1 : But s l H H1) (h2 : But s l H1 H2) : But s l H H2 :=
  fun b o n1 n2 e => h2 b o n1 n2 (h1 b o n1 n2 e)
theorem But.of_same {s l : Addr} {H H' : Hp} (h : Same H H') : But s l H H' := fun b o _ _ e => h b o e

def spSource (K : PySem.W.Frag) : Sp := fun vs H Q _ => ∃ (a : Addr) (ns : List Int), vs = [.ref a] ∧ SqL K H a (ns.map V.int) ∧ ns.length ≤ 63 ∧
  ∀ (H' : Hp) (s l : Addr) (ms : List Int) (z : Int), Same H H' → H s = none → H l = none → Src H' s l ms z 0 → Q (.ref s) H'
/-- one draw below many -/
def spDraw : Sp := fun vs H Q _ => ∃ (s l : Addr) (ms : List Int) (z b m : Int), vs = [.ref s, .int m] ∧ Src H s l ms z b ∧ 0 < m ∧ m ≤ 1000000 ∧ 0 ≤ b ∧ b < 1000000 ∧
  ∀ (H' : Hp) (ms' : List Int) (r : Int), But s l H H' → Src H' s l ms' z (b + 1) → 0 ≤ r → r < m → Q (.int r) H'

structure TxtA (K : PySem.W.Frag) (mg : Str → Option Value) : Prop where
  list : mg "list" = none
  len : mg "len" = none
  range : mg "range" = none
  tuple : mg "tuple" = none

theorem cut60 (ns : List Int) : cutV (ns.map V.int) none (some 60) = (ns.take 60).map V.int := by
  have e : HT.sIx (ns.map V.int).length (ns.map V.int).length (some 60) = min 60 ns.length := by
    have q := HT.sIx_nat (ns.map V.int).length (ns.map V.int).length 60
    rw [List.length_map] at q ⊢
    exact q
  unfold cutV
  rw [e]
  show ((ns.map V.int).drop 0).take (min 60 ns.length - 0) = _
  rw [List.drop_zero, Nat.sub_zero, ← List.map_take, List.take_eq_take_iff.mpr]
  omega
theorem map_ix {ns : List Int} {i : Nat} {y : V} (h : (ns.map V.int)[i]? = some y) : ∃ u, y = V.int u := by
  rw [List.getElem?_map] at h
  cases e : ns[i]? with
  | none => rw [e] at h; cases h
  | some u => rw [e] at h; exact ⟨u, (Option.some.inj h).symm⟩

theorem dpInts (K : PySem.W.Frag) (H : Hp) : ∀ ms : List Int, DpAll K H (ms.map V.int) (ms.map PyData.int)
  | [] => .nil
  | m :: r => .cons (.int m) (dpInts K H r)
theorem Src.but {H H' : Hp} {s l : Addr} {ms : List Int} {z b : Int} (h : Src H s l ms z b) (k : Same H H') : Src H' s l ms z b := ⟨k _ _ h.hs, k _ _ h.hl, h.len⟩
theorem layInts : ∀ ms : List Int, PyData.canLayAll0 (ms.map PyData.int) = true
  | [] => rfl
  | m :: r => by
    have h := layInts r
    simp only [List.map_cons, PyData.canLayAll0, PyData.canLay0, h, Bool.and_self]
theorem depthInts : ∀ ms : List Int, PyData.depthAll (ms.map PyData.int) = 0
  | [] => rfl
  | m :: r => by
    have h := depthInts r
    simp only [List.map_cons, PyData.depthAll, PyData.depth, h, Nat.max_self]
theorem shapedInts (ms : List Int) : SeqAt.shaped (.list (ms.map PyData.int)) = true := by
  unfold SeqAt.shaped
  simp only [PyData.canLay0, layInts ms, PyData.depth, depthInts ms]
  rfl
theorem seq0 (n : Nat) : seqIndex? 0 (n + 1) = some 0 := (ixN_seq (n := n + 1) (i := 0) (j := 0) (by unfold ixN; rw [if_pos (by omega), if_pos (by omega)]; rfl)).1
theorem But.upd {s l a : Addr} {H H' : Hp} {o : HO} (h : But s l H H') (e : a = s ∨ a = l) : But s l H (upd H' a o) := fun b u n1 n2 q => by
  rw [upd_ne (fun z => by rcases e with e | e
                          · exact n1 (z.trans e)
                          · exact n2 (z.trans e))]
  exact h b u n1 n2 q
theorem But.fresh {s l a : Addr} {H H' : Hp} {o : HO} (h : But s l H H') (e : H' a = none) : But s l H (L2.upd H' a o) := fun b u n1 n2 q => by
  have q' := h b u n1 n2 q
  rw [upd_ne (ne_of_none q' e)]
  exact q'

section
variable {P : Program} {w : World} {K : PySem.W.Frag} {mg : Str → Option Value} {base : Heap}
theorem scSource : FnScope ["_law_script", "_law_stirred", "_law_cell"] ["_law_script"] (defScope sSource) := ⟨rfl, rfl, rfl, by decide +kernel, rfl, by decide +kernel, by decide +kernel⟩
theorem ok_source {f : Addr} {fd : FuncData} (F : Fun K "_law_source" "_law_source" sSource f fd) (T : TxtA K mg) : FnOk P w K mg base CX0 1 f fd ["_law_script"] (spSource K) := by
  refine F.ok scSource (fun vs H Q E h => ?_) (fun cdv A outer s H vs Q E hr h => ?_)
  · obtain ⟨a, ns, rfl, _⟩ := h
    rfl
  · obtain ⟨a, ns, rfl, hS, hlen, k⟩ := h
    refine ⟨_, pss_cons (ps_set (i := 1) scSource.nd rfl (Or.inl rfl) pe_int)
      (pss_cons (ps_for PassesOwn.never rfl (pi_list (pe_slice sl_list (pv 0) po_none (po_some pe_int))) (pg_name (i := 2) scSource.nd rfl (Or.inl rfl))
        (pss_one (ps_set (i := 1) scSource.nd rfl (Or.inl rfl) (pe_op op_mod (pe_op op_add (pe_op op_add (pe_op op_mul (pv 1) pe_int) (pe_op op_mod (pv 2) pe_int)) pe_int) pe_int))))
      (pss_one (ps_ret (pe_lst (pa_cons (pe_callTy call_list_of (by rfl) T.list (by decide +kernel) (pa_cons (pe_slice sl_list (pv 0) po_none (po_some pe_int)) pa_nil)) (pa_cons (pv 1) (pa_cons pe_int pa_nil))))))), ?_⟩
    refine ⟨_, rfl, _, rfl, a, _, rfl, hS, fun p hp => ?_⟩
    rw [cut60] 
    have s1 : Same H (upd H p (.lst ((ns.take 60).map V.int))) := fun b o e => by
      rw [upd_ne (ne_of_none e hp)]
      exact e
    refine ⟨p, rfl, ⟨_, SqL.of upd_same⟩, for_list (K := K) (a := p) (xs := (ns.take 60).map V.int) (fun i σ H' => ∃ (z : Int) (v : Option V), σ = [some (.ref a), some (.int z), v] ∧ Same H H' ∧ H' p = some (.lst ((ns.take 60).map V.int)))
      ⟨_, _, rfl, s1, upd_same⟩ (fun i σ H' _ ⟨_, _, _, _, e⟩ => SqL.of e) ?_ ?_⟩
    · rintro i y σ H' hi ⟨z, v, rfl, s2, e2⟩
      obtain ⟨u, rfl⟩ := map_ix hi
      refine ⟨_, rfl, _, _, rfl, rfl, .inr (by decide), _, rfl, _, _, rfl, rfl, (by show (0 : Int) < 2147483563; decide), _, _, rfl, rfl, _, _, rfl, rfl, _, _, rfl, rfl, (by show (0 : Int) < 2147483629; decide), ?_⟩
      exact ⟨_, _, rfl, s2, e2⟩
    · rintro σ H' ⟨z, v, rfl, s2, e2⟩
      refine ⟨_, rfl, _, rfl, a, _, rfl, s2.seq hS, fun q hq => ?_⟩
      rw [cut60]
      refine ⟨q, _, rfl, .inl (SqL.of upd_same), fun l hl => ⟨_, rfl, (by show 3 ≤ sizeLine; decide), fun t ht => ?_⟩⟩
      have nq : l ≠ q := fun e => by
        rw [e, upd_same] at hl
        cases hl
      have nt : t ≠ l := fun e => by
        rw [e, upd_same] at ht
        cases ht
      have hl0 : H' l = none := by rw [← hl, upd_ne nq]
      have ht0 : upd H' q (.lst ((ns.take 60).map V.int)) t = none := by rw [← ht, upd_ne nt]
      have ntq : t ≠ q := fun e => by
        rw [e, upd_same] at ht0
        cases ht0
      have ht1 : H' t = none := by rw [← ht0, upd_ne ntq]
      refine k _ t l (ns.take 60) z (fun b o e => ?_) (s2.free ht1) (s2.free hl0) ⟨upd_same, ?_, ?_⟩
      · have e' := s2 b o e
        rw [upd_ne (ne_of_none e' ht1), upd_ne (ne_of_none e' hl0), upd_ne (ne_of_none e' hq)]
        exact e'
      · rw [upd_ne nt.symm, upd_same]
      · rw [List.length_take]
        omega
theorem scDraw : FnScope ["_law_source_here", "_law_many", "_law_number", "_law_cell"] ["_law_source_here", "_law_many"] (defScope sDraw) := ⟨rfl, rfl, rfl, by decide +kernel, rfl, by decide +kernel, by decide +kernel⟩
theorem ok_draw {f : Addr} {fd : FuncData} (F : Fun K "_law_draw" "_law_draw" sDraw f fd) : FnOk P w K mg base CX0 1 f fd ["_law_source_here", "_law_many"] spDraw := by
  refine F.ok scDraw (fun vs H Q E h => ?_) (fun cdv A outer s H vs Q E hr h => ?_)
  · obtain ⟨s, l, ms, z, b, m, rfl, _⟩ := h
    rfl
  · obtain ⟨a, l, ms, z, b, m, rfl, hs, m0, m1, b0, b1, k⟩ := h
    refine ⟨_, pss_cons (ps_asg (pe_op op_add (pe_ix ix_list (pv 0) pe_int (fun _ _ => rfl)) pe_int) (pg_sub (pv 0) pe_int set_list))
      (pss_cons (ps_set (i := 2) scDraw.nd rfl (Or.inl rfl) (pe_op op_add (pe_ix ix_list (pv 0) pe_int (fun _ _ => rfl)) (pe_op op_mul (pe_op op_mul pe_int (pe_ix ix_list (pv 0) pe_int (fun _ _ => rfl))) (pe_ix ix_list (pv 0) pe_int (fun _ _ => rfl)))))
      (pss_cons (ps_if (pt_cmpR (op_neD hr.units) (pe_ix ix_list (pv 0) pe_int (fun _ _ => rfl)) (pe_lst pa_nil) (nomark _))
        (pss_cons (ps_set (i := 3) scDraw.nd rfl (Or.inl rfl) (pe_bm PySem.F.plainAttrs_list PySem.F.slot_list_pop PySem.F.type_list_pop mt_popAt (pe_ix ix_list (pv 0) pe_int (fun _ _ => rfl)) (pa_cons pe_int pa_nil)))
        (pss_cons (ps_if (pt_cmpR op_ge (pv 3) (pe_op op_pow pe_int pe_int) (nomark _))
          (pss_cons (ps_expr (pe_bm PySem.F.plainAttrs_list PySem.F.slot_list_insert PySem.F.type_list_insert mt_insert (pe_ix ix_list (pv 0) pe_int (fun _ _ => rfl)) (pa_cons pe_int (pa_cons (pe_op op_fdiv (pv 3) (pv 1)) pa_nil))))
          (pss_one (ps_ret (pe_op op_mod (pv 3) (pv 1))))) pss_nil)
        (pss_one (ps_set (i := 2) scDraw.nd rfl (Or.inl rfl) (pe_op op_add (pv 2) (pv 3))))))
        pss_nil)
      (pss_cons (ps_set (i := 2) scDraw.nd rfl (Or.inl rfl) (pe_op op_mod (pe_op op_mul (pe_op op_mod (pv 2) pe_int) pe_int) pe_int))
      (pss_cons (ps_set (i := 2) scDraw.nd rfl (Or.inl rfl) (pe_op op_mod (pe_op op_add (pe_op op_add (pe_op op_mul (pv 2) (pv 2)) (pe_op op_mul pe_int (pv 2))) pe_int) pe_int))
      (pss_one (ps_ret (pe_op op_mod (pe_op op_fdiv (pe_op op_mod (pe_op op_mul (pv 2) pe_int) pe_int) pe_int) (pv 1)))))))), ?_⟩
    have hal := hs.ne
    refine ⟨_, rfl, _, _, _, _, rfl, rfl, SqL.of hs.hs, rfl, _, _, rfl, rfl, _, rfl, _, _, _, _, rfl, rfl, hs.hs, rfl, ?_⟩
    show tSeq _ _ _ _ (upd H a (.lst [.ref l, .int z, .int (b + 1)]))
    generalize hH1 : upd H a (.lst [.ref l, .int z, .int (b + 1)]) = H1
    have hs1 : Src H1 a l ms z (b + 1) := by
      rw [← hH1]
      exact ⟨upd_same, by rw [upd_ne hal.symm]; exact hs.hl, hs.len⟩
    have k1 : But a l H H1 := by
      rw [← hH1]
      exact But.upd (fun b o _ _ e => e) (.inl rfl)
    refine ⟨_, rfl, _, _, _, _, rfl, rfl, SqL.of hs1.hs, rfl, _, rfl, _, _, _, _, rfl, rfl, SqL.of hs1.hs, rfl, _, _, rfl, rfl, .inl (by decide), _, rfl, _, _, _, _, rfl, rfl, SqL.of hs1.hs, rfl, _, _, rfl, rfl, .inr ⟨by omega, by omega⟩, _, _, rfl, rfl, ?_⟩
    refine ⟨_, rfl, _, _, _, _, rfl, rfl, SqL.of hs1.hs, rfl, Nat.zero_le _, fun p hp => ?_⟩
    have hs2 : Src (upd H1 p (.lst [])) a l ms z (b + 1) := hs1.but fun b o e => by
      rw [upd_ne (ne_of_none e hp)]
      exact e
    have k2 : But a l H (upd H1 p (.lst [])) := k1.fresh hp
    refine ⟨_, _, .lst (SqL.of hs2.hl) (dpInts K _ ms), .lst (SqL.of upd_same) .nil, shapedInts ms, rfl, _, rfl, ?_⟩
    generalize upd H1 p (.lst []) = H2 at hs2 k2 ⊢
    cases ms with
    | nil =>
      refine iteF ?_
      refine ⟨_, rfl, _, _, rfl, rfl, (by show (0 : Int) < 2147483563; decide), _, _, rfl, rfl, .inr (by decide), _, _, rfl, rfl, (by show (0 : Int) < 2147483647; decide), ?_⟩
      refine ⟨_, rfl, _, rfl, _, _, rfl, rfl, .inl ⟨?_, ?_⟩, _, rfl, _, _, rfl, rfl, .inl (by decide), _, _, rfl, rfl, _, _, rfl, rfl, _, _, rfl, rfl, (by show (0 : Int) < 2147483587; decide), ?_⟩
      · omega
      · omega
      refine ⟨_, rfl, _, _, rfl, rfl, .inr (by decide), _, _, rfl, rfl, (by show (0 : Int) < 2147483629; decide), _, _, rfl, rfl, ⟨by decide, by decide⟩, _, rfl, _, _, rfl, rfl, m0, ?_⟩
      exact k _ _ _ k2 hs2 (Int.emod_nonneg _ (by omega)) (Int.emod_lt_of_pos _ m0)
    | cons c r =>
      have hr : r.length + 1 ≤ 63 := hs2.len
      refine iteT ?_
      refine ⟨_, rfl, _, _, _, _, rfl, rfl, SqL.of hs2.hs, rfl, .inl ⟨rfl, _, SqL.of hs2.hl⟩, l, _, 0, 0, .int c, rfl, rfl, hs2.hl, by decide, by decide, seq0 _, rfl, ?_⟩
      have hs3 : Src (upd H2 l (.lst (r.map V.int))) a l r z (b + 1) := ⟨by rw [upd_ne hal]; exact hs2.hs, upd_same, by omega⟩
      have k3 : But a l H (upd H2 l (.lst (r.map V.int))) := k2.upd (.inr rfl)
      show tSeq _ _ _ _ (upd H2 l (.lst (r.map V.int)))
      generalize upd H2 l (.lst (r.map V.int)) = H3 at hs3 k3 ⊢
      refine ⟨_, rfl, _, _, rfl, rfl, ⟨by decide, by decide, by decide⟩, _, _, rfl, rfl, _, rfl, ?_⟩
      refine ite2 (fun _ => ?_) (fun _ => ?_)
      · refine ⟨_, rfl, _, _, _, _, rfl, rfl, SqL.of hs3.hs, rfl, .inl ⟨rfl, _, SqL.of hs3.hl⟩, _, rfl, _, rfl, _, _, rfl, rfl, ⟨m0, by omega⟩, l, _, _, _, rfl, rfl, hs3.hl, ?_, by decide, by decide, ?_⟩
        · rw [List.length_map]
          show r.length < 16777216
          omega
        refine ⟨_, rfl, _, rfl, _, _, rfl, rfl, m0, ?_⟩
        exact k _ (c / m :: r) _ (k3.upd (.inr rfl)) ⟨by rw [upd_ne hal]; exact hs3.hs, upd_same, hr⟩ (Int.emod_nonneg _ (by omega)) (Int.emod_lt_of_pos _ m0)
      · refine ⟨_, rfl, _, rfl, _, _, rfl, rfl, ?_⟩
        refine ⟨_, rfl, _, _, rfl, rfl, (by show (0 : Int) < 2147483563; decide), _, _, rfl, rfl, .inr (by decide), _, _, rfl, rfl, (by show (0 : Int) < 2147483647; decide), ?_⟩
        refine ⟨_, rfl, _, rfl, _, _, rfl, rfl, .inl ⟨?_, ?_⟩, _, rfl, _, _, rfl, rfl, .inl (by decide), _, _, rfl, rfl, _, _, rfl, rfl, _, _, rfl, rfl, (by show (0 : Int) < 2147483587; decide), ?_⟩
        · omega
        · omega
        refine ⟨_, rfl, _, _, rfl, rfl, .inr (by decide), _, _, rfl, rfl, (by show (0 : Int) < 2147483629; decide), _, _, rfl, rfl, ⟨by decide, by decide⟩, _, rfl, _, _, rfl, rfl, m0, ?_⟩
        exact k _ _ _ k3 hs3 (Int.emod_nonneg _ (by omega)) (Int.emod_lt_of_pos _ m0)
end
end Vm
/-! tuples that are made here: their objects have no dict -/
namespace Vm
open PySem PySem.Spec PyProof.Rows L2 HT
section
variable {prog : Program} {w : World} {A : Around} {E : Value → Shared → Prop} {s : Shared}
theorem places_rev (n : Nat) : Builtin.Slice.sliceAdjust none none (-1) (n : Int) = ((n : Int) - 1, -1) ∧ Builtin.Slice.slicePlaces ((n : Int) - 1) (-1) (-1) = n := by
  refine ⟨rfl, ?_⟩
  unfold Builtin.Slice.slicePlaces
  rw [if_neg (by decide)]
  by_cases h : ((n : Int) - 1) > -1
  · rw [if_pos h]
    have : (((n : Int) - 1 - -1 - 1) / (- -1) + 1) = (n : Int) := by
      rw [show (- -1 : Int) = 1 by rfl, Int.ediv_one]
      omega
    rw [this]
    rfl
  · rw [if_neg h]
    have : n = 0 := by omega
    rw [this]
    rfl
theorem pick_rev (xs : Array Value) : ((List.range xs.size).filterMap fun (m : Nat) => xs[(((xs.size : Int) - 1) + (m : Int) * (-1)).toNat]?).toArray = xs.toList.reverse.toArray := by
  congr 1
  have h : ∀ k, k ≤ xs.size → ((List.range k).filterMap fun (m : Nat) => xs[(((xs.size : Int) - 1) + (m : Int) * (-1)).toNat]?) = (xs.toList.drop (xs.size - k)).reverse := by
    intro k
    induction k with
    | zero =>
      intro _
      rw [List.range_zero, List.drop_of_length_le (by rw [Array.length_toList]; omega)]
      rfl
    | succ k ih =>
      intro hk
      rw [List.range_succ, List.filterMap_append, ih (by omega)]
      have e : (((xs.size : Int) - 1) + (k : Int) * (-1)).toNat = xs.size - (k + 1) := by omega
      have lt : xs.size - (k + 1) < xs.size := by omega
      have e2 : xs.toList.drop (xs.size - (k + 1)) = xs.toList[xs.size - (k + 1)]'(by rw [Array.length_toList]; exact lt) :: xs.toList.drop (xs.size - k) := by
        have z := List.drop_eq_getElem_cons (l := xs.toList) (i := xs.size - (k + 1)) (by rw [Array.length_toList]; exact lt)
        rw [z]
        congr 2
        omega
      rw [e2, List.reverse_cons]
      congr 1
      simp only [List.filterMap_cons, List.filterMap_nil, e, Array.getElem?_eq_getElem lt]
      rfl
  have z := h xs.size (Nat.le_refl _)
  rw [z, Nat.sub_self, List.drop_zero]
theorem sliceApplied_rev {sl : Addr} {vl vu vs : Value} {n : Nat} {Q : Int × Int × Nat → Shared → Prop} (hs : s.heap.IsSliceOf sl vl vu vs) (pl : IsPart vl none) (pu : IsPart vu none) (ps : IsPart vs (some (-1)))
    (h : Q ((n : Int) - 1, -1, n) s) : wpAny (model prog w) A (Builtin.Slice.sliceApplied (.ref sl) (pure (n : Int))) Q E s := by
  obtain ⟨os, hos, hcs, hds⟩ := id hs
  unfold Builtin.Slice.sliceApplied Builtin.Slice.sliceFields
  refine wpAny_bind (wpAny_bind (wpAny_field hos hds (x := vl) rfl (wpAny_bind (wpAny_field hos hds (x := vu) rfl (wpAny_bind (wpAny_field hos hds (x := vs) rfl (wpAny_pure ?_)))))))
  refine wpAny_bind (slicePart_ ps ?_)
  show wpAny _ _ (if ((-1 : Int) == 0) = true then _ else _) _ _ s
  rw [if_neg (by decide)]
  refine wpAny_bind (slicePart_ pl (wpAny_bind (slicePart_ pu (wpAny_bind (wpAny_pure ?_)))))
  show wpAny _ _ (match Builtin.Slice.sliceAdjust none none (-1) (n : Int) with | (lo, hi) => pure (lo, (-1 : Int), Builtin.Slice.slicePlaces lo hi (-1))) _ _ s
  rw [(places_rev n).1]
  show wpAny _ _ (pure ((n : Int) - 1, (-1 : Int), Builtin.Slice.slicePlaces ((n : Int) - 1) (-1) (-1))) _ _ s
  rw [(places_rev n).2]
  exact wpAny_pure h
theorem getItem_tuple_rev {t sl : Addr} {items : Array Value} {vl vu vs : Value} {Q : Value → Shared → Prop} (ht : IsTup s.heap t items) (hs : s.heap.IsSliceOf sl vl vu vs) (pl : IsPart vl none) (pu : IsPart vu none) (ps : IsPart vs (some (-1)))
    (h : Q (.ref s.heap.objs.size) { s with heap := s.heap.push { cls := .type "tuple", data := .seq items.toList.reverse.toArray } })
    (hsz : items.size ≤ sizeLine) : wpAny (model prog w) A (getItem (.ref t) (.ref sl)) Q E s := by
  have htake : sizeOk (.seq items.toList.reverse.toArray) := by
    show items.toList.reverse.toArray.size ≤ sizeLine
    rw [List.size_toArray, List.length_reverse, Array.length_toList]
    exact hsz
  obtain ⟨os, hos, hcs, hds⟩ := id hs
  have hTs : s.TypeIs (.ref sl) "slice" := ⟨os, hos, hcs⟩
  unfold getItem
  try with_reducible refine wpAny_holding ?_
  first | refine wpAny_bind (wpAny_pure ?_) | skip
  refine wpAny_bind (wpAny_sequenceKey ht.typeIs (by decide) ?_)
  refine wpAny_bind (wpAny_callSpecial?_slot (name := Str.ofString "__getitem__") ht.typeIs PyProof.Rows.slot_tuple_getitem
    (wpAny_call_entry PyProof.Rows.slot_tuple_getitem ht.typeIs entry_tuple_getitem ?_ (args_tuple_getitem _ _)))
  show wpAny _ _ (Builtin.Tuple.tupleItemsOf (.ref t) >>= _) _ _ s
  refine wpAny_bind (tupleItemsOf_ ht ?_)
  refine wpAny_bind (wpAny_typeOf hTs ?_)
  rw [if_pos (by decide)]
  refine wpAny_bind (sliceApplied_rev hs pl pu ps ?_)
  have hno : ¬ (((((items.size : Int) - 1) == 0 && (-1 : Int) == 1 && items.size == items.size)) = true) := by
    intro q
    rw [Bool.and_eq_true, Bool.and_eq_true] at q
    exact absurd q.1.2 (by decide)
  show wpAny _ _ (if (((items.size : Int) - 1) == 0 && (-1 : Int) == 1 && items.size == items.size) = true then _ else _) _ _ s
  rw [if_neg hno, pick_rev]
  first
    | exact wpAny_bind (m := Builtin.Tuple.tupleExact _) (wpAny_newObj_type (wpAny_pure ⟨_, rfl, wpAny_pure h⟩) htake)
    | exact wpAny_bind (m := Builtin.Tuple.tupleExact _) (wpAny_newObj_type (wpAny_bind (wpAny_pure (wpAny_pure ⟨_, rfl, wpAny_pure h⟩))) htake)
    | exact wpAny_bind (wpAny_bind (m := Builtin.Tuple.tupleExact _) (wpAny_newObj_type (wpAny_pure (wpAny_pure ⟨_, rfl, wpAny_pure h⟩)) htake))
    | exact wpAny_bind (wpAny_bind (m := Builtin.Tuple.tupleExact _) (wpAny_newObj_type (wpAny_pure ⟨_, rfl, wpAny_pure h⟩) htake))
end
/-- a new tuple of these items is the value -/
def New (H : Hp) (xs : List V) (Q : VK) : Prop := ∀ (p : Addr) (o : Obj), H p = none → o.dict = none → Q (.ref p) (upd H p (.frz o (.tup xs)))
abbrev tobj (us : List Value) : Obj := { cls := .type "tuple", data := .seq us.toArray }
section
variable {X : Cx} {pins : List (Addr × Obj)} {σ : L2.St} {H : Hp} {s : Shared} {Q : VK}
/-- its object is laid behind the heap -/
theorem New.laid {xs : List V} {us : List Value} (q : New H xs Q) (I : Inv X pins σ H s) (r : Vals xs us) (few : xs.length ≤ sizeLine) : EP X pins σ Q (.ref s.heap.objs.size) { s with heap := s.heap.push (tobj us) } := by
  have at_ : (s.heap.push (tobj us)).get? s.heap.objs.size = some (tobj us) := Heap.get?_push_size _ rfl
  have ok : ObjOk X.prog X.w (upd H s.heap.objs.size (.frz (tobj us) (.tup xs))) (s.heap.push (tobj us)) s.heap.objs.size (.frz (tobj us) (.tup xs)) := ⟨at_, few, us, r, _, at_, rfl, _, rfl⟩
  have free : H s.heap.objs.size = none := I.hok.fresh (Nat.le_refl _)
  refine ⟨.ref s.heap.objs.size, _, I.laid (o := .frz (tobj us) (.tup xs)) (t' := s.toks) (fun c u e => ?_) (Nat.le_refl _) ok, rfl, q _ _ free rfl⟩
  exact Heap.get?_push_of_some (tobj us) e
theorem vals_few {xs : List V} {us : List Value} (r : Vals xs us) {n : Nat} (h : xs.length ≤ n) : us.toArray.size ≤ n := by
  rw [List.size_toArray, ← r.length]
  exact h
def tTupF (t : TA) : TE := fun σ H Q => t σ H fun xs H1 => xs.length ≤ sizeLine ∧ New H1 xs Q
theorem pe_tupF {es : List Expr} {t : TA} {pos : Pos} {x1} (h : PA X es t) : PE X (.Tuple es x1 pos) (tTupF t) := by
  constructor
  intro pins s σ H Q I want
  refine wpAny_Tuple_spliced (thn (h.run pos pins s σ H _ I want) ?_)
  rintro us s1 ⟨xs, H1, I1, r, few, q⟩
  exact ⟨r.length ▸ few, q.laid I1 r few⟩
/-- tuple(list) -/
theorem call_tupleF : CallR X (.type "tuple") (fun xs H Q => ∃ p ys, xs = [.ref p] ∧ SqL X.K H p ys ∧ New H ys Q) := by
  rintro pins s σ H xs us Q I rel ⟨p, ys, rfl, hq, q⟩
  obtain ⟨u, rfl, e⟩ := vals1 rel
  cases e
  obtain ⟨its, r, pl, few⟩ := I.list hq
  exact call_tuple_list pl.isList (fun h' kp => q.laid (s := { s with heap := h' }) (I.kept (t' := s.toks) kp) r few) (vals_few r few)
/-- t + u -/
def rCatF (K : PySem.W.Frag) : R2 := fun x y H Q => ∃ a b xs ys, x = .ref a ∧ y = .ref b ∧ SqT K H a xs ∧ SqT K H b ys ∧ xs.length + ys.length ≤ sizeLine ∧
  (xs = [] → Q (.ref b) H) ∧ (xs ≠ [] → ys = [] → Q (.ref a) H) ∧ (xs ≠ [] → ys ≠ [] → New H (xs ++ ys) Q)
theorem op_catF : OpR X (binaryOp .Add) (rCatF X.K) := by
  rintro pins s σ H x y v u Q I rx ry ⟨a, b, xs, ys, rfl, rfl, ha, hb, few, left, right, both⟩
  cases rx
  cases ry
  obtain ⟨its, r, ta, _⟩ := I.tuple ha
  obtain ⟨its2, r2, tb, _⟩ := I.tuple hb
  have none_iff := r2.nil_iff
  cases xs with
  | nil =>
    cases r
    exact cat_tup0 ta tb ⟨.ref b, H, I, rfl, left rfl⟩
  | cons y0 xs =>
    have some_ : y0 :: xs ≠ [] := List.cons_ne_nil _ _
    refine HT.cat_tup ta tb (fun e => some_ (r.nil_iff.mp e)) (fun e => ⟨.ref a, H, I, rfl, right some_ (none_iff.mp e)⟩) (fun e => ?_) ?_
    · exact (both some_ fun z => e (none_iff.mpr z)).laid I (r.append r2) (by rw [List.length_append]; exact few)
    · rw [← r.length, ← r2.length]
      exact few
/-- t[lo:hi] -/
def rSlF (K : PySem.W.Frag) : V → Option Int → Option Int → Hp → VK → Prop := fun x lo hi H Q => ∃ a xs, x = .ref a ∧ SqT K H a xs ∧
  (HT.sIx xs.length 0 lo = 0 ∧ HT.sIx xs.length xs.length hi = xs.length → Q (.ref a) H) ∧ New H (cutV xs lo hi) Q
theorem sl_tupF : SlR X (rSlF X.K) := by
  rintro pins s σ H x v vl vu lo hi sl Q I rx sliced pl pu ⟨a, xs, rfl, hx, whole, q⟩
  cases rx
  obtain ⟨its, r, ht, few⟩ := I.tuple hx
  have size : its.toArray.size = xs.length := by rw [List.size_toArray, r.length]
  refine ⟨"tuple", _, PyProof.Rows.slot_tuple_getitem.lookup, ht.typeIs, ?_⟩
  by_cases all : HT.sIx xs.length 0 lo = 0 ∧ HT.sIx xs.length xs.length hi = xs.length
  · exact getItem_tuple_whole ht sliced pl pu (size ▸ all) ⟨.ref a, H, I, rfl, whole all⟩
  · refine HT.getItem_tuple_cut ht sliced pl pu (size ▸ all) ?_ (size ▸ few)
    rw [size]
    exact q.laid I ((r.drop _).take _) (Nat.le_trans (cutV_length xs lo hi) few)
/-- t[::-1] -/
def tRevT (K : PySem.W.Frag) (te : TE) : TE := fun σ H Q => te σ H fun x H1 => ∃ a xs, x = .ref a ∧ SqT K H1 a xs ∧ New H1 xs.reverse Q
theorem pe_revT {e : Expr} {te : TE} {k : Nat} {p1 p2 p3 pos : Pos} (he : PE X e te) : PE X (.Subscript e (.Slice none none (some (.UnaryOp .USub (.Constant (.int 1) k p1) p2)) p3) pos) (tRevT X.K te) := by
  constructor
  intro pins s σ H Q I want
  refine Subscript_ (thn (he.run pins s σ H _ I want) ?_)
  rintro v s1 ⟨_, H1, I1, rel, a, xs, rfl, hx, q⟩
  cases rel
  have back : PO X (some (.UnaryOp .USub (.Constant (.int 1) k p1) p2)) (tPart (tUn (rU fun i => .int (-i)) (tC (.int 1)))) := po_some (pe_un un_neg pe_int)
  refine wpAny_Slice (thn (po_none.run pins s1 σ H1 (fun o G => o = none ∧ G = H1) I1 ⟨rfl, rfl⟩) ?_)
  rintro vl s2 ⟨_, _, I2, pl, rfl, rfl⟩
  refine thn (po_none.run pins s2 σ _ (fun o G => o = none ∧ G = _) I2 ⟨rfl, rfl⟩) ?_
  rintro vu s3 ⟨_, _, I3, pu, rfl, rfl⟩
  refine thn (back.run pins s3 σ _ (fun o G => o = some (-1) ∧ G = _) I3 ⟨1, rfl, -1, rfl, rfl, rfl⟩) ?_
  rintro vs s4 ⟨_, G, I4, ps, rfl, rfl⟩
  let sob : Obj := { cls := .type "slice", data := .fields #[vl, vu, vs] }
  have I5 : Inv X pins σ G { s4 with heap := s4.heap.push sob } := I4.kept (t' := s4.toks) fun _ _ z => Heap.get?_push_of_some sob z
  obtain ⟨its, r, ht, few⟩ := I5.tuple hx
  show wpAny (model X.prog X.w) X.A (subscriptTail e (.Slice none none (some (.UnaryOp .USub (.Constant (.int 1) k p1) p2)) p3) (.ref a) (.ref s4.heap.objs.size)) (EP X pins σ Q) X.xe { s4 with heap := s4.heap.push sob }
  refine tail_any (ops := [.ref a, .ref s4.heap.objs.size]) ht.typeIs PyProof.Rows.slot_tuple_getitem.lookup ?_ (by with_unfolding_all rfl)
  exact getItem_tuple_rev ht (Heap.IsSliceOf.new _ vl vu vs) pl pu ps (q.laid I5 r.reverse (by rw [List.length_reverse]; exact few)) (vals_few r few)
end
end Vm
namespace Vm
open PySem L2
/-! data of any kind as trees: how it lies in the abstract heap, its text by repr, its type -/
inductive Tr where
  | non | bl (b : Bool) | int (i : Int) | str (x : Str) | lst (xs : List Tr) | tup (xs : List Tr) | dct (ks : List Key) (xs : List Tr)
def keyText : Key → Str
  | .inl i => toString i
  | .inr z => reprText z
def keyFits : Key → Prop
  | .inl i => i.natAbs.log2 < 1920
  | .inr z => (reprText z).length ≤ sizeLine
def entryText (k v : Str) : Str := k ++ ": " ++ v
mutual
def Tr.text : Tr → Str
  | .non => "None"
  | .bl b => if b then "True" else "False"
  | .int i => toString i
  | .str x => reprText x
  | .lst xs => listText (texts xs)
  | .tup xs => tupleText (texts xs)
  | .dct ks xs => dictText (List.zipWith entryText (ks.map keyText) (texts xs))
def texts : List Tr → List Str
  | [] => []
  | x :: r => x.text :: texts r
end
/-- an empty tuple of the module's own -/
def KTup (K : PySem.W.Frag) (a : Addr) : Prop := ∃ (o : Obj) (its : Array Value) (n : Nat), K.lookup a = some o ∧ o.cls = .type "tuple" ∧ o.data = .seq its n ∧ its.size ≤ sizeLine ∧ Vals [] its.toList
mutual
/-- v is data of the tree t, at most n deep, its own objects at bs -/
inductive Dt (K : PySem.W.Frag) (H : Hp) : V → Tr → Nat → List Addr → Prop
  | non {n : Nat} : Dt K H .non .non n []
  | bl {n : Nat} (b : Bool) : Dt K H (.bl b) (.bl b) n []
  | int {n : Nat} {i : Int} (h : i.natAbs.log2 < 1920) : Dt K H (.int i) (.int i) n []
  | str {n : Nat} {x : Str} (h : (reprText x).length ≤ sizeLine) (hz : x.length ≤ sizeLine) : Dt K H (.str x) (.str x) n []
  | lst {n : Nat} {a : Addr} {xs : List V} {ts : List Tr} {bs : List Addr} (h : H a = some (.lst xs)) (r : DtAll K H xs ts n bs) (na : a ∉ bs) : Dt K H (.ref a) (.lst ts) (n + 1) (a :: bs)
  | emp {n : Nat} {a : Addr} (h : KTup K a) : Dt K H (.ref a) (.tup []) (n + 1) []
  | tup {n : Nat} {a : Addr} {ob : Obj} {xs : List V} {ts : List Tr} {bs : List Addr} (h : H a = some (.frz ob (.tup xs))) (nd : ob.dict = none) (r : DtAll K H xs ts n bs) (na : a ∉ bs) : Dt K H (.ref a) (.tup ts) (n + 1) (a :: bs)
  | dct {n : Nat} {a : Addr} {kvs : List (Key × V)} {ts : List Tr} {bs : List Addr} (h : H a = some (.dK kvs)) (kf : ∀ p ∈ kvs, keyFits p.1) (r : DtAll K H (kvs.map (·.2)) ts n bs) (na : a ∉ bs) : Dt K H (.ref a) (.dct (kvs.map (·.1)) ts) (n + 1) (a :: bs)
inductive DtAll (K : PySem.W.Frag) (H : Hp) : List V → List Tr → Nat → List Addr → Prop
  | nil {n : Nat} : DtAll K H [] [] n []
  | cons {n : Nat} {v : V} {vs : List V} {x : Tr} {xs : List Tr} {bs cs : List Addr} (h : Dt K H v x n bs) (r : DtAll K H vs xs n cs) : DtAll K H (v :: vs) (x :: xs) n (bs ++ cs)
end
mutual
theorem Dt.lvl {K : PySem.W.Frag} {H : Hp} : ∀ {v : V} {x : Tr} {n m : Nat} {bs : List Addr}, Dt K H v x n bs → n ≤ m → Dt K H v x m bs
  | _, _, _, _, _, .non, _ => .non
  | _, _, _, _, _, .bl b, _ => .bl b
  | _, _, _, _, _, .int h, _ => .int h
  | _, _, _, _, _, .str h hz, _ => .str h hz
  | _, _, _, 0, _, .lst _ _ _, l => absurd l (by omega)
  | _, _, _, _ + 1, _, .lst h r na, l => .lst h (r.lvl (Nat.le_of_succ_le_succ l)) na
  | _, _, _, 0, _, .emp _, l => absurd l (by omega)
  | _, _, _, _ + 1, _, .emp h, l => .emp h
  | _, _, _, 0, _, .tup _ _ _ _, l => absurd l (by omega)
  | _, _, _, _ + 1, _, .tup h nd r na, l => .tup h nd (r.lvl (Nat.le_of_succ_le_succ l)) na
  | _, _, _, 0, _, .dct _ _ _ _, l => absurd l (by omega)
  | _, _, _, _ + 1, _, .dct h kf r na, l => .dct h kf (r.lvl (Nat.le_of_succ_le_succ l)) na
theorem DtAll.lvl {K : PySem.W.Frag} {H : Hp} : ∀ {v : List V} {x : List Tr} {n m : Nat} {bs : List Addr}, DtAll K H v x n bs → n ≤ m → DtAll K H v x m bs
  | _, _, _, _, _, .nil, _ => .nil
  | _, _, _, _, _, .cons h r, l => .cons (h.lvl l) (r.lvl l)
end
mutual
theorem Dt.keep {K : PySem.W.Frag} {H H' : Hp} : ∀ {v : V} {x : Tr} {n : Nat} {bs : List Addr}, Dt K H v x n bs → (∀ b ∈ bs, ∀ o, H b = some o → H' b = some o) → Dt K H' v x n bs
  | _, _, _, _, .non, _ => .non
  | _, _, _, _, .bl b, _ => .bl b
  | _, _, _, _, .int h, _ => .int h
  | _, _, _, _, .str h hz, _ => .str h hz
  | _, _, _, _, .lst h r na, k => .lst (k _ List.mem_cons_self _ h) (r.keep fun b hb => k b (List.mem_cons_of_mem _ hb)) na
  | _, _, _, _, .emp h, k => .emp h
  | _, _, _, _, .tup h nd r na, k => .tup (k _ List.mem_cons_self _ h) nd (r.keep fun b hb => k b (List.mem_cons_of_mem _ hb)) na
  | _, _, _, _, .dct h kf r na, k => .dct (k _ List.mem_cons_self _ h) kf (r.keep fun b hb => k b (List.mem_cons_of_mem _ hb)) na
theorem DtAll.keep {K : PySem.W.Frag} {H H' : Hp} : ∀ {v : List V} {x : List Tr} {n : Nat} {bs : List Addr}, DtAll K H v x n bs → (∀ b ∈ bs, ∀ o, H b = some o → H' b = some o) → DtAll K H' v x n bs
  | _, _, _, _, .nil, _ => .nil
  | _, _, _, _, .cons h r, k => .cons (h.keep fun b hb => k b (List.mem_append_left _ hb)) (r.keep fun b hb => k b (List.mem_append_right _ hb))
end
mutual
/-- its objects stand -/
theorem Dt.there {K : PySem.W.Frag} {H : Hp} : ∀ {v : V} {x : Tr} {n : Nat} {bs : List Addr}, Dt K H v x n bs → ∀ b ∈ bs, ∃ o, H b = some o
  | _, _, _, _, .non => fun _ h => nomatch h
  | _, _, _, _, .bl b => fun _ h => nomatch h
  | _, _, _, _, .int h => fun _ h => nomatch h
  | _, _, _, _, .str h hz => fun _ h => nomatch h
  | _, _, _, _, .lst h r na => fun b hb => (List.mem_cons.mp hb).elim (fun e => ⟨_, e ▸ h⟩) (DtAll.there r b)
  | _, _, _, _, .emp h => fun _ h => nomatch h
  | _, _, _, _, .tup h nd r na => fun b hb => (List.mem_cons.mp hb).elim (fun e => ⟨_, e ▸ h⟩) (DtAll.there r b)
  | _, _, _, _, .dct h kf r na => fun b hb => (List.mem_cons.mp hb).elim (fun e => ⟨_, e ▸ h⟩) (DtAll.there r b)
theorem DtAll.there {K : PySem.W.Frag} {H : Hp} : ∀ {v : List V} {x : List Tr} {n : Nat} {bs : List Addr}, DtAll K H v x n bs → ∀ b ∈ bs, ∃ o, H b = some o
  | _, _, _, _, .nil => fun _ h => nomatch h
  | _, _, _, _, .cons h r => fun b hb => (List.mem_append.mp hb).elim (Dt.there h b) (DtAll.there r b)
end
theorem DtAll.length {K : PySem.W.Frag} {H : Hp} : ∀ {v : List V} {x : List Tr} {n : Nat} {bs : List Addr}, DtAll K H v x n bs → v.length = x.length
  | _, _, _, _, .nil => rfl
  | _, _, _, _, .cons _ r => congrArg (· + 1) r.length
theorem DtAll.append {K : PySem.W.Frag} {H : Hp} : ∀ {v v' : List V} {x x' : List Tr} {n : Nat} {bs cs : List Addr}, DtAll K H v x n bs → DtAll K H v' x' n cs → DtAll K H (v ++ v') (x ++ x') n (bs ++ cs)
  | _, _, _, _, _, _, _, .nil, s => s
  | _, _, _, _, _, _, _, .cons (bs := b1) (cs := b2) h r, s => by
    rw [List.append_assoc]
    exact .cons h (r.append s)
/-- the item at i -/
theorem DtAll.get {K : PySem.W.Frag} {H : Hp} : ∀ {vs : List V} {ts : List Tr} {n : Nat} {bs : List Addr}, DtAll K H vs ts n bs → ∀ {i : Nat} {v : V}, vs[i]? = some v → ∃ t cs, ts[i]? = some t ∧ Dt K H v t n cs ∧ ∀ c ∈ cs, c ∈ bs
  | _, _, _, _, .nil, _, _, e => nomatch e
  | _, _, _, _, .cons h r, 0, _, e => ⟨_, _, rfl, Option.some.inj e ▸ h, fun c hc => List.mem_append_left _ hc⟩
  | _, _, _, _, .cons h r, i + 1, _, e => by
    obtain ⟨t, cs, e1, d, k⟩ := r.get (i := i) e
    exact ⟨t, cs, e1, d, fun c hc => List.mem_append_right _ (k c hc)⟩
/-- a part of it -/
theorem DtAll.part {K : PySem.W.Frag} {H : Hp} {n : Nat} : ∀ {vs : List V} {ts : List Tr} {bs : List Addr}, DtAll K H vs ts n bs → ∀ i, (∃ cs, DtAll K H (vs.take i) (ts.take i) n cs ∧ ∀ c ∈ cs, c ∈ bs) ∧ ∃ cs, DtAll K H (vs.drop i) (ts.drop i) n cs ∧ ∀ c ∈ cs, c ∈ bs
  | _, _, _, .nil, i => ⟨⟨[], by simpa using .nil, fun _ h => nomatch h⟩, ⟨[], by simpa using .nil, fun _ h => nomatch h⟩⟩
  | _, _, _, .cons h r, 0 => ⟨⟨[], .nil, fun _ h => nomatch h⟩, ⟨_, .cons h r, fun _ z => z⟩⟩
  | _, _, _, .cons (bs := b1) h r, i + 1 => by
    obtain ⟨⟨cs, d, k⟩, ⟨cs', d', k'⟩⟩ := r.part i
    exact ⟨⟨b1 ++ cs, .cons h d, fun c hc => (List.mem_append.mp hc).elim (List.mem_append_left _) fun z => List.mem_append_right _ (k c z)⟩, ⟨cs', d', fun c hc => List.mem_append_right _ (k' c hc)⟩⟩
/-! types -/
def tyOf : Tr → String
  | .non => "NoneType"
  | .bl _ => "bool"
  | .int _ => "int"
  | .str _ => "str"
  | .lst _ => "list"
  | .tup _ => "tuple"
  | .dct _ _ => "dict"
theorem Dt.ty {K : PySem.W.Frag} {H : Hp} : ∀ {v : V} {t : Tr} {n : Nat} {bs : List Addr}, Dt K H v t n bs → TyX K H v (.type (tyOf t))
  | _, _, _, _, .non => .base .non
  | _, _, _, _, .bl b => .base (.bl b)
  | _, _, _, _, .int h => .base (.int _)
  | _, _, _, _, .str h hz => .base (.str _)
  | _, _, _, _, .lst h r na => .base (.lst h)
  | _, _, _, _, .emp h => let ⟨o, _, _, e, c, _⟩ := h; .kTuple e c
  | _, _, _, _, .tup h nd r na => .fTuple h
  | _, _, _, _, .dct h kf r na => .base (.dK h)
def isStr : Tr → Bool
  | .str _ => true
  | _ => false
def isTup : Tr → Bool
  | .tup _ => true
  | _ => false
theorem kit_str {K : PySem.W.Frag} (t : Tr) : PySem.W.kitOne K (.type (tyOf t)) (.type "str") = some (isStr t) := by
  cases t <;> (dsimp only [tyOf, isStr]; exact kit_ty (by decide +kernel))
section
variable {X : Cx} {pins : List (Addr × Obj)} {σ : St} {H : Hp} {s : Shared}
/-- keys and values of a dict's entries -/
theorem pairs_keys {P : Program} {w : World} {h : Heap} {bs : List Addr} {n : Nat} : ∀ {kvs : List (Key × V)} {vs : List (Key × Value)} {es : List DictEntry}, KV kvs vs → PySem.Pairs (mixKind P w) es vs → (∀ p ∈ kvs, keyFits p.1) →
    ReprAllK P w bs h n (es.map (·.key)) ((kvs.map (·.1)).map keyText) ∧ es.map (·.val) = vs.map (·.2) ∧ Vals (kvs.map (·.2)) (vs.map (·.2))
  | _, _, _, .nil, .nil, _ => ⟨.nil, rfl, .nil⟩
  | (k, v) :: kvs, _, _, .cons (b := b) r rs, .cons e ev es, kf => by
    obtain ⟨h1, h2, h3⟩ := pairs_keys (h := h) (bs := bs) (n := n) rs es fun p hp => kf p (List.mem_cons_of_mem _ hp)
    obtain ⟨r1, r2⟩ := r
    refine ⟨.cons ?_ h1, by rw [List.map_cons, List.map_cons, h2, ev], .cons r2 h3⟩
    have hk := kf (k, v) List.mem_cons_self
    obtain ⟨b1, b2⟩ := b
    dsimp only at r1 e ⊢
    subst r1
    rcases keyIs_shape e with ⟨i, t, rfl, q⟩ | ⟨x, t, rfl, q⟩
    · rw [q]
      exact .of_is (ReprIs.int t hk) _ _ _
    · rw [q]
      exact .of_is (ReprIs.str x t hk) _ _ _
/-- the addresses that a repr goes through: the value's own ones, and empty tuples of the module -/
def Mine (K : PySem.W.Frag) (bs cs : List Addr) : Prop := ∀ c ∈ cs, c ∈ bs ∨ KTup K c
theorem Mine.not {bs cs : List Addr} {a : Addr} (I : Inv X pins σ H s) (m : Mine X.K bs cs) {o : HO} (h : H a = some o) (na : a ∉ bs) : a ∉ cs := fun z => by
  rcases m a z with q | ⟨ob, _, _, e, _⟩
  · exact na q
  · have e2 := (I.bs a ob (I.ok.mod.kin a ob e)).2
    rw [h] at e2
    cases e2
mutual
theorem Dt.repr (I : Inv X pins σ H s) : ∀ {v : V} {x : Tr} {n : Nat} {bs : List Addr} {u : Value}, Dt X.K H v x n bs → RelV v u → ∃ cs, Mine X.K bs cs ∧ ReprK X.prog X.w cs s.heap n u x.text
  | _, _, _, _, _, .non, r => by
    cases r
    exact ⟨[], (fun _ h => nomatch h), .of_is ReprIs.none _ _ _⟩
  | _, _, _, _, _, .bl b, r => by
    cases r
    exact ⟨[], (fun _ h => nomatch h), .of_is (ReprIs.bool b) _ _ _⟩
  | _, _, _, _, _, .int h, r => by
    obtain ⟨t, rfl⟩ := r
    exact ⟨[], (fun _ h => nomatch h), .of_is (ReprIs.int t h) _ _ _⟩
  | _, _, _, _, _, .str h hz, r => by
    obtain ⟨t, rfl⟩ := r
    exact ⟨[], (fun _ h => nomatch h), .of_is (ReprIs.str _ t h) _ _ _⟩
  | _, _, _, _, _, .lst (a := a) h rs na, r => by
    cases r
    obtain ⟨z, its, n', rv, e⟩ := I.hok _ _ h
    obtain ⟨cs, m, q⟩ := DtAll.repr I rs rv
    refine ⟨a :: cs, fun c hc => (List.mem_cons.mp hc).elim (fun q => .inl (q ▸ List.mem_cons_self)) fun q => (m c q).imp_left (List.mem_cons_of_mem _), ?_⟩
    have na' := m.not I h na
    cases its with
    | nil =>
      cases rv
      cases rs
      have e2 : listText [] = "[]" := listText_nil
      show ReprK _ _ _ _ _ _ (listText [])
      rw [e2]
      exact (ReprK.listEmpty e rfl rfl).more fun b hb => List.mem_cons.mpr (.inl (List.mem_singleton.mp hb))
    | cons y ys => exact ReprK.list e rfl rfl na' (by simpa using q.length_eq) fun i y' e' => q.item i y' (by simpa using e')
  | _, _, _, _, _, .emp (a := a) h, r => by
    cases r
    obtain ⟨its, rv, ⟨o, e, c, n', d⟩, _⟩ := I.tuple (.inr h)
    cases rv
    exact ⟨[a], (fun c hc => .inr (List.mem_singleton.mp hc ▸ h)), ReprK.tuple e c d (by simp) .nil⟩
  | _, _, _, _, _, .tup (a := a) h nd rs na, r => by
    cases r
    obtain ⟨_, z, its, rv, o, e, c, n', d⟩ := I.hok _ _ h
    obtain ⟨cs, m, q⟩ := DtAll.repr I rs rv
    exact ⟨a :: cs, (fun c hc => (List.mem_cons.mp hc).elim (fun q => .inl (q ▸ List.mem_cons_self)) fun q => (m c q).imp_left (List.mem_cons_of_mem _)), ReprK.tuple e c d (m.not I h na) (by simpa using q)⟩
  | _, _, _, _, _, .dct (a := a) h kf rs na, r => by
    cases r
    obtain ⟨z, hs, vs, kv, o, es, ep, e, ex, d, ko, ps, nd⟩ := I.hok _ _ h
    obtain ⟨_, q2, q3⟩ := pairs_keys (h := s.heap) (bs := []) (n := 0) kv ps kf
    obtain ⟨cs, m, q⟩ := DtAll.repr I rs q3
    obtain ⟨q1, _, _⟩ := pairs_keys kv ps kf
    refine ⟨a :: cs, (fun c hc => (List.mem_cons.mp hc).elim (fun q => .inl (q ▸ List.mem_cons_self)) fun q => (m c q).imp_left (List.mem_cons_of_mem _)), ReprK.dict e ex.1 d hs (m.not I h na) (ReprEntriesK.of_two es.toList _ _ q1 ?_)⟩
    rw [q2]
    exact q
theorem DtAll.repr (I : Inv X pins σ H s) : ∀ {vs : List V} {xs : List Tr} {n : Nat} {bs : List Addr} {us : List Value}, DtAll X.K H vs xs n bs → Vals vs us → ∃ cs, Mine X.K bs cs ∧ ReprAllK X.prog X.w cs s.heap n us (texts xs)
  | _, _, _, _, _, .nil, .nil => ⟨[], (fun _ h => nomatch h), .nil⟩
  | _, _, _, _, _, .cons (bs := b1) (cs := b2) h rs, .cons r t => by
    obtain ⟨c1, m1, q1⟩ := Dt.repr I h r
    obtain ⟨c2, m2, q2⟩ := DtAll.repr I rs t
    exact ⟨c1 ++ c2, (fun c hc => (List.mem_append.mp hc).elim (fun q => (m1 c q).imp_left (List.mem_append_left _)) fun q => (m2 c q).imp_left (List.mem_append_right _)),
      .cons (q1.more fun b hb => List.mem_append_left _ hb) (q2.more_le (fun b hb => List.mem_append_right _ hb) (Nat.le_refl _))⟩
end
/-- repr(data) -/
def rRepr (K : PySem.W.Frag) : List V → Hp → VK → Prop := fun xs H Q => ∃ (v : V) (t : Tr) (n : Nat) (bs : List Addr), xs = [v] ∧ Dt K H v t n bs ∧ n ≤ 8 ∧ t.text.length ≤ sizeLine ∧ Q (.str t.text) H
theorem call_reprT (hg : X.A.guards = some []) (hu : X.A.units + 16 < cLine) : CallR X (.builtin "repr") (rRepr X.K) := by
  intro pins s σ H xs us Q I r h
  obtain ⟨v, t, n, bs, rfl, d, hn, hx, q⟩ := h
  obtain ⟨u, rfl, rv⟩ := vals1 r
  have fin : ∀ (h' : Heap) (tk : Tok) (k : Nat), (∀ b o, s.heap.get? b = some o → h'.get? b = some o) → EP X pins σ Q (.str t.text tk) { s with heap := h', toks := k } := fun h' tk k kk => ⟨.str t.text, H, I.kept kk, ⟨tk, rfl⟩, q⟩
  cases d with
  | non =>
    cases rv
    exact PySem.P.repr_of_none (fin s.heap _ _ fun _ _ e => e)
  | bl b =>
    cases rv
    exact PySem.P.repr_of_bool (fin s.heap _ _ fun _ _ e => e)
  | int hi =>
    obtain ⟨t, rfl⟩ := rv
    exact PySem.P.repr_of_int hi (fin s.heap _ _ fun _ _ e => e)
  | str hz _ =>
    obtain ⟨t, rfl⟩ := rv
    exact PySem.P.repr_of_str (fin s.heap _ _ fun _ _ e => e) hz
  | @lst n0 a xs ts bs hl rs na =>
    cases rv
    obtain ⟨z, its, n', rv', e⟩ := I.hok _ _ hl
    obtain ⟨cs, m, k⟩ := DtAll.repr I rs rv'
    have na' := m.not I hl na
    refine call_repr_slot (by omega) ⟨_, e, rfl⟩ PySem.F.slot_list_repr.toG ?_
    cases its with
    | nil =>
      cases rv'
      cases rs
      exact call_list_repr_empty ⟨_, e, rfl⟩ e rfl ⟨_, _, rfl, fin s.heap _ _ fun _ _ q => q⟩
    | cons y ys =>
      exact call_list_reprK e rfl rfl na' (by simpa using k.length_eq) (fun i y' e' => k.item i y' (by simpa using e')) (g := []) hg (fun b _ => Clear.nil b) (by show X.A.units + 1 + _ < _; omega) (fun _ _ q => q)
        (fun h' t tk kk => ⟨_, _, rfl, fin h' t tk kk⟩) hx
  | @emp n0 a h =>
    cases rv
    obtain ⟨its, rv', ⟨o, e, c, n', dd⟩, _⟩ := I.tuple (.inr h)
    cases rv'
    exact call_repr_slot (by omega) ⟨_, e, c⟩ PySem.F.slot_tuple_repr
      (call_tuple_reprK (as := []) (d := 0) e c dd (by simp) .nil (g := []) hg (fun b _ => Clear.nil b) (by show X.A.units + 1 + _ < _; omega) (fun _ _ q => q) (fun h' t tk kk => ⟨_, _, rfl, fin h' t tk kk⟩) hx)
  | @tup n0 a ob xs ts bs hl nd rs na =>
    cases rv
    obtain ⟨_, z, its, rv', o, e, c, n', dd⟩ := I.hok _ _ hl
    obtain ⟨cs, m, k⟩ := DtAll.repr I rs rv'
    exact call_repr_slot (by omega) ⟨_, e, c⟩ PySem.F.slot_tuple_repr
      (call_tuple_reprK e c dd (m.not I hl na) (by simpa using k) (g := []) hg (fun b _ => Clear.nil b) (by show X.A.units + 1 + _ < _; omega) (fun _ _ q => q) (fun h' t tk kk => ⟨_, _, rfl, fin h' t tk kk⟩) hx)
  | @dct n0 a kvs ts bs hl kf rs na =>
    cases rv
    obtain ⟨z, hs, vs, kv, o, es, ep, e, ex, dd, ko, ps, nd⟩ := I.hok _ _ hl
    obtain ⟨_, q2, q3⟩ := pairs_keys (h := s.heap) (bs := []) (n := 0) kv ps kf
    obtain ⟨cs, m, k⟩ := DtAll.repr I rs q3
    obtain ⟨q1, _, _⟩ := pairs_keys kv ps kf
    refine call_repr_slot (by omega) ⟨_, e, ex.1⟩ PySem.F.slot_dict_repr
      (call_dict_reprK (d := n0) (as := cs) e ex.1 dd hs (m.not I hl na) (ReprEntriesK.of_two es.toList _ _ q1 ?_) (g := []) hg (fun b _ => Clear.nil b) (by show X.A.units + 1 + _ < _; omega) (fun _ _ q => q) (fun h' t tk kk => ⟨_, _, rfl, fin h' t tk kk⟩) hx)
    rw [q2]
    exact k
end
/-- a tuple among the data -/
theorem Dt.tupOf {K : PySem.W.Frag} {H : Hp} {v : V} {t : Tr} {n : Nat} {bs : List Addr} (d : Dt K H v t n bs) (h : isTup t = true) : ∃ (a : Addr) (xs : List V) (ts : List Tr) (m : Nat) (cs : List Addr), v = .ref a ∧ t = .tup ts ∧ m < n ∧ SqT K H a xs ∧ DtAll K H xs ts m cs ∧ ∀ c ∈ cs, c ∈ bs := by
  cases d with
  | @tup n a ob xs ts bs e nd r na => exact ⟨a, xs, ts, n, bs, rfl, rfl, Nat.lt_succ_self _, .inl (.inr ⟨_, e⟩), r, fun c hc => List.mem_cons_of_mem _ hc⟩
  | @emp n a e => exact ⟨a, [], [], n, [], rfl, rfl, Nat.lt_succ_self _, .inr e, .nil, fun _ h => nomatch h⟩
  | _ => cases h
/-- a tuple: the module's empty one, or one that was made here, whose object has no dict -/
def TupE (K : PySem.W.Frag) (H : Hp) (a : Addr) (xs : List V) : Prop := (xs = [] ∧ KTup K a) ∨ ∃ o : Obj, H a = some (.frz o (.tup xs)) ∧ o.dict = none
theorem TupE.sq {K : PySem.W.Frag} {H : Hp} {a : Addr} {xs : List V} (h : TupE K H a xs) : SqT K H a xs := by
  rcases h with ⟨rfl, h⟩ | ⟨o, h, _⟩
  · exact .inr h
  · exact .inl (.inr ⟨o, h⟩)
theorem TupE.same {K : PySem.W.Frag} {H H' : Hp} {a : Addr} {xs : List V} (k : Same H H') (h : TupE K H a xs) : TupE K H' a xs := h.imp id fun ⟨o, h, d⟩ => ⟨o, k _ _ h, d⟩
theorem Dt.tupD {K : PySem.W.Frag} {H : Hp} {v : V} {t : Tr} {n : Nat} {bs : List Addr} (d : Dt K H v t n bs) (h : isTup t = true) : ∃ (a : Addr) (xs : List V) (ts : List Tr) (m : Nat) (cs : List Addr), v = .ref a ∧ t = .tup ts ∧ m < n ∧ TupE K H a xs ∧ DtAll K H xs ts m cs ∧ ∀ c ∈ cs, c ∈ bs := by
  cases d with
  | @tup n a ob xs ts bs e nd r na => exact ⟨a, xs, ts, n, bs, rfl, rfl, Nat.lt_succ_self _, .inr ⟨_, e, nd⟩, r, fun c hc => List.mem_cons_of_mem _ hc⟩
  | @emp n a e => exact ⟨a, [], [], n, [], rfl, rfl, Nat.lt_succ_self _, .inl ⟨rfl, e⟩, .nil, fun _ h => nomatch h⟩
  | _ => cases h
end Vm
namespace Vm
open PySem L2
/-! names -/
def lowB (c : Nat) : Bool := decide (97 ≤ c) && decide (c ≤ 122)
/-- one to eight letters a to z -/
def nmS (x : Str) : Bool := decide (1 ≤ x.length) && (decide (x.length ≤ 8) && x.cps.toList.all lowB)
def isNm : Tr → Bool
  | .str x => nmS x
  | _ => false
def ascB (c : Nat) : Bool := Unicode.isAlpha c == (decide (65 ≤ c) && decide (c ≤ 90) || lowB c) && (Unicode.isLower c == lowB c && ((Unicode.isUpper c || Unicode.isTitle c) == (decide (65 ≤ c) && decide (c ≤ 90))))
theorem asc_all : (List.range 128).all ascB = true := by decide +kernel
theorem asc_of {c : Nat} (h : c < 128) : Unicode.isAlpha c = (decide (65 ≤ c) && decide (c ≤ 90) || lowB c) ∧ Unicode.isLower c = lowB c ∧ (Unicode.isUpper c || Unicode.isTitle c) = (decide (65 ≤ c) && decide (c ≤ 90)) := by
  have z := List.all_eq_true.mp asc_all c (List.mem_range.mpr h)
  unfold ascB at z
  rw [Bool.and_eq_true, Bool.and_eq_true, beq_iff_eq, beq_iff_eq, beq_iff_eq] at z
  exact z
theorem low_all : ∀ l : List Nat, (l.all (fun c => decide (c < 128)) && (l.all Unicode.isAlpha && !l.any fun c => Unicode.isUpper c || Unicode.isTitle c)) = l.all lowB
  | [] => rfl
  | c :: r => by
    have ih := low_all r
    rw [List.all_cons, List.all_cons, List.any_cons, List.all_cons, ← ih]
    by_cases h : c < 128
    · obtain ⟨h1, h2, h3⟩ := asc_of h
      rw [h1, h3, decide_eq_true h]
      unfold lowB
      by_cases a1 : 65 ≤ c <;> by_cases a2 : c ≤ 90 <;> by_cases a3 : 97 ≤ c <;> by_cases a4 : c ≤ 122 <;> simp [a1, a2, a3, a4] <;> omega
    · have e : lowB c = false := by
        unfold lowB
        rw [decide_eq_false (show ¬ c ≤ 122 by omega), Bool.and_false]
      rw [decide_eq_false h, e]
      simp
theorem any_low : ∀ l : List Nat, l ≠ [] → l.all lowB = true → l.any Unicode.isLower = true
  | [], h, _ => absurd rfl h
  | c :: r, _, h => by
    rw [List.all_cons, Bool.and_eq_true] at h
    have c1 : lowB c = true := h.1
    have lt : c < 128 := by
      unfold lowB at c1
      rw [Bool.and_eq_true, decide_eq_true_eq, decide_eq_true_eq] at c1
      omega
    rw [List.any_cons, (asc_of lt).2.1, c1, Bool.true_or]
/-- what the program asks of a text of at most eight signs -/
theorem nm_prog {x : Str} (h : x.length ≤ 8) : (Txt.isascii x && (Txt.isalpha x && Txt.islower x)) = nmS x := by
  have e1 := low_all x.cps.toList
  have e2 := any_low x.cps.toList
  have l : x.length = x.cps.toList.length := by
    show x.cps.size = _
    simp
  have f1 : Txt.isascii x = x.cps.toList.all (fun c => decide (c < 128)) := by
    unfold Txt.isascii
    rw [← Array.all_toList]
  have f2 : Txt.isalpha x = (decide (x.length > 0) && x.cps.toList.all Unicode.isAlpha) := by
    unfold Txt.isalpha
    rw [← Array.all_toList]
  have f3 : Txt.islower x = (x.cps.toList.any Unicode.isLower && !x.cps.toList.any fun c => Unicode.isUpper c || Unicode.isTitle c) := by
    unfold Txt.islower
    rw [← Array.any_toList, ← Array.any_toList]
  unfold nmS
  rw [f1, f2, f3, decide_eq_true h, Bool.true_and, l]
  generalize x.cps.toList = L at e1 e2 ⊢
  cases L with
  | nil => rfl
  | cons c r =>
    have p : decide ((c :: r).length > 0) = true := decide_eq_true (by simp)
    have p2 : decide (1 ≤ (c :: r).length) = true := decide_eq_true (by simp)
    rw [p, p2, Bool.true_and, Bool.true_and]
    cases d : (c :: r).all lowB with
    | true =>
      rw [e2 (by simp) d, Bool.true_and, e1, d]
    | false =>
      rw [d] at e1
      revert e1
      cases (c :: r).all (fun c => decide (c < 128)) <;> cases (c :: r).all Unicode.isAlpha <;> cases (c :: r).any Unicode.isLower <;> cases (c :: r).any (fun c => Unicode.isUpper c || Unicode.isTitle c) <;> simp
end Vm
namespace Vm
open PySem SeqAt MeetsSeq
open AutoSeq1 (wpAny_loadPart')
/-! a dict and a text are never equal -/
abbrev dob (dd : Option Addr) (es : Array DictEntry) (n : Nat) (sl : Array (Option Value)) : Obj := { cls := .type "dict", dict := dd, data := .dict es n, slots := sl }
theorem str_no_dict (b : Str) (u : Tok) (l : Addr) (dd : Option Addr) (es : Array DictEntry) (n : Nat) (sl : Array (Option Value)) : Meets (Builtin.«str.__eq__» ⟨[.str b u, .ref l], []⟩) (fun _ R s => s.heap.get? l = some (dob dd es n sl) ∧ R (.ok (.ret .notImplemented)) s) :=
  .of_wp fun prog w A R s h => by
    obtain ⟨hp, g, d, tk, os⟩ := s
    obtain ⟨hl, h⟩ := h
    have f1 := F.sub_dict_str
    wp_walk using wpAny_loadPart' hl, wpAny_load hl
    exact ⟨_, rfl, h⟩
theorem dict_no_str (l : Addr) (dd : Option Addr) (es : Array DictEntry) (n : Nat) (sl : Array (Option Value)) (b : Str) (u : Tok) : Meets (Builtin.«dict.__eq__» ⟨[.ref l, .str b u], []⟩) (fun _ R s => s.heap.get? l = some (dob dd es n sl) ∧ R (.ok (.ret .notImplemented)) s) :=
  .of_wp fun prog w A R s h => by
    obtain ⟨hp, g, d, tk, os⟩ := s
    obtain ⟨hl, h⟩ := h
    have ty : (⟨hp, g, d, tk, os⟩ : Shared).TypeIs (.ref l) "dict" := ⟨_, hl, rfl⟩
    have f1 := F.sub_str_dict
    show wpAny _ _ (Builtin.Dict.dictSlotArgs "__eq__" ⟨[.ref l, .str b u], []⟩ >>= _) _ _ _
    refine wpAny_bind ?_
    unfold Builtin.Dict.dictSlotArgs
    refine wpAny_bind (wpAny_notOrdered_dict ty ?_)
    refine wpAny_pure ?_
    refine wpAny_bind (wpAny_isInstance (T := "str") (typeIs_str _ b u) f1 ?_)
    simp only [Bool.not_false, if_true]
    wp_walk
    exact ⟨_, rfl, h⟩
section
variable {A : Around} {s : Shared}
theorem rc_dict_str {l : Addr} {dd : Option Addr} {es : Array DictEntry} {n : Nat} {sl : Array (Option Value)} (b : Str) (u : Tok) (ho : s.heap.get? l = some (dob dd es n sl)) (hu : A.units < cLine) : RcAt A s (.ref l) (.str b u) false := fun prog w E Q h =>
  rc_eq_decline_or (k := false) ⟨_, ho, rfl⟩ (typeIs_str s b u) (by decide) F.sub_str_dict F.slot_dict_eq F.slot_str_eq_refl
    (fun _ q => call_meets F.slot_dict_eq ⟨_, ho, rfl⟩ F.entry_dict_eq (F.args_dict_eq_2 _ _) (dict_no_str l dd es n sl b u) ⟨ho, q⟩)
    (fun _ q => call_meets F.slot_str_eq_refl (typeIs_str s b u) F.entry_str_eq (F.args_str_eq_2 _ _) (str_no_dict b u l dd es n sl) ⟨ho, q⟩)
    (fun _ q => wpAny_of_eq (rfl : isSame (.ref l) (.str b u) = pure false) q) (.inr hu) h
theorem eq_dict_str {l : Addr} {o : Obj} {es : Array DictEntry} {n : Nat} (b : Str) (u : Tok) (ho : s.heap.get? l = some o) (hc : o.cls = .type "dict") (hd : o.data = .dict es n) (hu : A.units < cLine) : EqAt A s (.ref l) (.str b u) false := fun prog w E Q h => by
  obtain ⟨c, dd, dt, sl⟩ := o
  dsimp only at hc hd
  subst hc hd
  unfold eqBool
  refine wpAny_holding (wpAny_ite_split (fun hab => absurd (eq_of_beq hab) nofun) fun _ => ?_)
  exact wpAny_bind (rc_dict_str b u ho hu prog w E _ (wpAny_truthy_bool h))
end
open L2
/-- the tree is this text -/
def isS (x : Str) : Tr → Bool
  | .str y => y == x
  | _ => false
/-- any data beside a text -/
theorem Dt.eqStr {X : Cx} {pins : List (Addr × Obj)} {σ : St} {H : Hp} {s : Shared} {A : Around} (I : Inv X pins σ H s) {v : V} {t : Tr} {n : Nat} {bs : List Addr} {u : Value} (d : Dt X.K H v t n bs) (r : RelV v u) (x : Str) (k : Tok) (hu : A.units < cLine) : EqAt A s u (.str x k) (isS x t) := by
  cases d with
  | non =>
    cases r
    exact .none_str x k
  | bl b =>
    cases r
    exact .bool_str b x k
  | int h =>
    obtain ⟨t, rfl⟩ := r
    exact .int_str _ t x k
  | str h _ =>
    obtain ⟨t, rfl⟩ := r
    exact .str_str _ t x k
  | lst h rs na =>
    cases r
    obtain ⟨its, rv, pl, _⟩ := I.list (.inl (.inl h))
    exact .list_str x k pl.isList hu
  | emp h =>
    cases r
    obtain ⟨its, rv, pl, _⟩ := I.tuple (.inr h)
    exact .tuple_str x k pl hu
  | tup h nd rs na =>
    cases r
    obtain ⟨its, rv, pl, _⟩ := I.tuple (.inl (.inr ⟨_, h⟩))
    exact .tuple_str x k pl hu
  | dct h kf rs na =>
    cases r
    obtain ⟨z, hs, vs, kv, o, es, ep, e, ex, dd, _⟩ := I.hok _ _ h
    exact eq_dict_str x k e ex.1 dd hu
end Vm
namespace Vm
open PySem L2
def valS (x : Str) : Value → Bool
  | .str y _ => y == x
  | _ => false
theorem Dt.valS {K : PySem.W.Frag} {H : Hp} {v : V} {t : Tr} {n : Nat} {bs : List Addr} {u : Value} (d : Dt K H v t n bs) (r : RelV v u) (x : Str) : valS x u = isS x t := by
  cases d with
  | str h _ =>
    obtain ⟨t, rfl⟩ := r
    rfl
  | int h =>
    obtain ⟨t, rfl⟩ := r
    rfl
  | _ => cases r <;> rfl
theorem DtAll.anyS {K : PySem.W.Frag} {H : Hp} (x : Str) : ∀ {vs : List V} {ts : List Tr} {n : Nat} {bs : List Addr} {us : List Value}, DtAll K H vs ts n bs → Vals vs us → us.any (Vm.valS x) = ts.any (isS x)
  | _, _, _, _, _, .nil, .nil => rfl
  | _, _, _, _, _, .cons h r, .cons q s => by rw [List.any_cons, List.any_cons, h.valS q, r.anyS x s]
/-- ts are the texts ss -/
def sameS : List Tr → List Str → Bool
  | [], [] => true
  | t :: r, z :: s => isS z t && sameS r s
  | _, _ => false
def atS (ts : List Tr) (ss : List Str) (j : Nat) : Bool := match ts[j]?, ss[j]? with
  | some t, some z => isS z t
  | _, _ => true
theorem all_atS : ∀ (ts : List Tr) (ss : List Str), ((List.range (min ts.length ss.length)).all (atS ts ss) && ts.length == ss.length) = sameS ts ss
  | [], [] => rfl
  | [], z :: s => by simp [sameS]
  | t :: r, [] => by simp [sameS]
  | t :: r, z :: s => by
    have ih := all_atS r s
    have e : min (t :: r).length (z :: s).length = min r.length s.length + 1 := by
      simp only [List.length_cons]
      omega
    rw [e, List.range_succ_eq_map, List.all_cons, List.all_map]
    have e2 : (atS (t :: r) (z :: s) ∘ Nat.succ) = atS r s := by
      funext j
      simp [atS]
    have e3 : ((t :: r).length == (z :: s).length) = (r.length == s.length) := by
      simp only [List.length_cons]
      by_cases h : r.length = s.length
      · rw [h]
        simp
      · have h2 : ¬ r.length + 1 = s.length + 1 := by omega
        rw [beq_eq_false_iff_ne.mpr h, beq_eq_false_iff_ne.mpr h2]
    rw [e2, e3]
    show ((isS z t && _) && _) = (isS z t && sameS r s)
    rw [← ih, Bool.and_assoc]
section
variable {X : Cx}
def rInD (K : PySem.W.Frag) (neg : Bool) : R2 := fun x y H Q => ∃ (z : Str) (p : Addr) (xs : List V) (ts : List Tr) (n : Nat) (bs : List Addr), x = .str z ∧ y = .ref p ∧ SqT K H p xs ∧ DtAll K H xs ts n bs ∧ Q (.bl (if neg then !ts.any (isS z) else ts.any (isS z))) H
theorem op_inD {K : PySem.W.Frag} (eK : X.K = K) (hu : X.A.units + 1 < cLine) : OpR X (compareOp .In) (rInD K false) := by
  subst eK
  intro pins s σ H x y v u Q I rx ry h
  obtain ⟨z, p, xs, ts, n, bs, rfl, rfl, hp, d, q⟩ := h
  obtain ⟨k, rfl⟩ := rx
  cases ry
  obtain ⟨its, r, pl, hz⟩ := I.tuple hp
  refine SeqAt.in_tupleAt (valS z) pl (fun y hy => ?_) ⟨.bl _, H, I, rfl, ?_⟩
  · have hy' : y ∈ its := by simpa using hy
    obtain ⟨i, hi, e⟩ := List.mem_iff_getElem.mp hy'
    have e' : its[i]? = some y := by rw [List.getElem?_eq_getElem hi, e]
    have hi2 : i < xs.length := by rw [r.length]; exact hi
    obtain ⟨u, h1, h2⟩ := r.get (List.getElem?_eq_getElem hi2)
    rw [e'] at h1
    cases h1
    obtain ⟨t, cs, _, dt, _⟩ := d.get (List.getElem?_eq_getElem hi2)
    rw [dt.valS h2]
    exact dt.eqStr I h2 z k (by show X.A.units + 1 < cLine; exact hu)
  · rw [show its.toArray.any (valS z) = its.any (valS z) by simp, d.anyS z r]
    exact q
def rEqTS (K : PySem.W.Frag) : R2 := fun x y H Q => ∃ (p q : Addr) (xs : List V) (ts : List Tr) (n : Nat) (bs : List Addr) (ss : List Str), x = .ref p ∧ y = .ref q ∧ SqT K H p xs ∧ DtAll K H xs ts n bs ∧ SqT K H q (ss.map V.str) ∧ Q (.bl (sameS ts ss)) H
theorem op_eqTS (hu : X.A.units + 1 < cLine) : OpR X (compareOp .Eq) (rEqTS X.K) := by
  intro pins s σ H x y v u Q I rx ry h
  obtain ⟨p, q, xs, ts, n, bs, ss, rfl, rfl, hp, d, hq, k⟩ := h
  cases rx
  cases ry
  obtain ⟨its, r, pl, hz⟩ := I.tuple hp
  obtain ⟨its2, r2, pl2, hz2⟩ := I.tuple hq
  have l1 : its.length = ts.length := by rw [← r.length, d.length]
  have l2 : its2.length = ss.length := by rw [← r2.length, List.length_map]
  refine SeqAt.eq_tupleAt (e := atS ts ss) pl pl2 (by omega) (fun j h1 h2 => ?_) ⟨.bl _, H, I, rfl, ?_⟩
  · have h1' : j < its.length := by simpa using h1
    have h2' : j < its2.length := by simpa using h2
    have j1 : j < xs.length := by rw [r.length]; exact h1'
    have j2 : j < (ss.map V.str).length := by rw [r2.length]; exact h2'
    obtain ⟨u, a1, a2⟩ := r.get (List.getElem?_eq_getElem j1)
    obtain ⟨u2, b1, b2⟩ := r2.get (List.getElem?_eq_getElem j2)
    obtain ⟨t, cs, et, dt, _⟩ := d.get (List.getElem?_eq_getElem j1)
    have j3 : j < ss.length := by simpa using j2
    rw [List.getElem_map] at b2
    obtain ⟨k2, rfl⟩ := b2
    have c1 : its.toArray[j] = u := by
      have := List.getElem?_eq_getElem h1'
      rw [a1] at this
      simpa using (Option.some.inj this).symm
    have c2 : its2.toArray[j] = Value.str ss[j] k2 := by
      have := List.getElem?_eq_getElem h2'
      rw [b1] at this
      simpa using (Option.some.inj this).symm
    rw [c1, c2]
    have e : atS ts ss j = isS ss[j] t := by
      unfold atS
      rw [et, List.getElem?_eq_getElem j3]
    rw [e]
    exact dt.eqStr I a2 _ k2 hu
  · have e : ((List.range (min its.toArray.size its2.toArray.size)).all (atS ts ss) && its.toArray.size == its2.toArray.size) = sameS ts ss := by
      rw [← all_atS, List.size_toArray, List.size_toArray, l1, l2]
    rw [e]
    exact k
end
end Vm
namespace Vm
open PySem L2
theorem ite_ {c : Prop} [Decidable c] {A B : Prop} (h1 : c → A) (h2 : ¬ c → B) : if decide c = true then A else B := by
  by_cases h : c
  · rw [if_pos (decide_eq_true h)]
    exact h1 h
  · rw [if_neg (by simpa using h)]
    exact h2 h
theorem iteB {b : Bool} {A B : Prop} (h1 : b = true → A) (h2 : b = false → B) : if b = true then A else B := by
  cases b with
  | true => exact iteT (h1 rfl)
  | false => exact iteF (h2 rfl)
theorem sameT {K : PySem.W.Frag} {H H' : Hp} {a : Addr} {xs : List V} (k : Same H H') (h : SqT K H a xs) : SqT K H' a xs := by
  rcases h with (h | ⟨o, h⟩) | h
  · exact .inl (.inl (k _ _ h))
  · exact .inl (.inr ⟨o, k _ _ h⟩)
  · exact .inr h
theorem same_upd {H : Hp} {a : Addr} {o : HO} (h : H a = none) : Same H (upd H a o) := fun b u e => by
  rw [upd_ne (ne_of_none e h)]
  exact e
theorem Dt.same {K : PySem.W.Frag} {H H' : Hp} {v : V} {t : Tr} {n : Nat} {bs : List Addr} (d : Dt K H v t n bs) (k : Same H H') : Dt K H' v t n bs := d.keep fun b _ o e => k b o e
def isNum : Tr → Bool
  | .int _ => true
  | _ => false
def areNms : Tr → Bool
  | .tup ts => decide (ts.length ≤ 2) && ts.all isNm
  | _ => false
def isKey (t : Tr) (ss : List Str) : Bool := match t with
  | .tup ts => sameS ts (ss.filter fun z => ts.any (isS z))
  | _ => false
/-- a test of any data -/
def spTest (K : PySem.W.Frag) (f : Tr → Bool) : Sp := fun vs H Q _ => ∃ (v : V) (t : Tr) (n : Nat) (bs : List Addr), vs = [v] ∧ Dt K H v t n bs ∧ ∀ H', Same H H' → Q (.bl (f t)) H'
end Vm
namespace Vm
open PySem L2
theorem map_at {ss : List Str} {i : Nat} {y : V} (h : (ss.map V.str)[i]? = some y) : ∃ z, ss[i]? = some z ∧ y = .str z := by
  rw [List.getElem?_map] at h
  cases e : ss[i]? with
  | none => rw [e] at h; cases h
  | some u => rw [e] at h; exact ⟨u, rfl, (Option.some.inj h).symm⟩
end Vm
namespace Vm
open PySem PySem.Spec PyProof.Rows
/-! len(set(t)), t a tuple of any texts -/
/-- how many different texts stand ahead of the place i -/
def many (xs : List Str) : Nat → Nat
  | 0 => 0
  | i + 1 => if (xs.take i).any (· == xs.getD i Str.empty) = true then many xs i else many xs i + 1
theorem many_le (xs : List Str) : ∀ i, many xs i ≤ i
  | 0 => Nat.le_refl _
  | i + 1 => by
    have h := many_le xs i
    unfold many
    split <;> omega
def seen (xs : List Str) (i : Nat) : Str → Bool := fun z => (xs.take i).any (· == z)
theorem seen_succ (xs : List Str) {i : Nat} (h : i < xs.length) (z : Str) : (seen xs i z || decide (z = xs.getD i Str.empty)) = seen xs (i + 1) z := by
  unfold seen
  have e : xs.getD i Str.empty = xs[i] := by
    rw [List.getD_eq_getElem?_getD, List.getElem?_eq_getElem h]
    rfl
  rw [List.take_add_one, List.getElem?_eq_getElem h, List.any_append, e]
  congr 1
  by_cases q : z = xs[i]
  · rw [decide_eq_true q, q]
    simp
  · have q2 : (xs[i] == z) = false := beq_eq_false_iff_ne.mpr fun y => q y.symm
    rw [decide_eq_false q]
    simp [q2]
section
variable {prog : Program} {w : World} {A : Around} {R : Result → Shared → Prop} {I : Addr} {fp wr : List Addr} {G : Array GenState → Array GenState → Prop} {n : Nat} {Pv : Nat → Value → Prop} {St : Nat → Shared → Prop}
theorem set_same {B : Addr} {xs : List Str} {i m : Nat} {h h' : Heap} (q : h.SetOf (strKind prog w) B (seen xs i) m) (k : ∀ o, h.get? B = some o → h'.get? B = some o) : h'.SetOf (strKind prog w) B (seen xs i) m :=
  let ⟨o, es, ep, t, ho, rest⟩ := q
  ⟨o, es, ep, t, k o ho, rest⟩
/-- the walk puts every text into the set at B -/
theorem put_all (W : WalksS prog w A.in1 I fp wr G n Pv St) (B : Addr) (off : B ∉ fp) (xs : List Str) (len : xs.length = n) (few : n < 1000) (vals : ∀ i v, Pv i v → ∃ t, v = .str (xs.getD i Str.empty) t) :
    ∀ (k i : Nat) (s : Shared), n - i = k → i ≤ n → St i s → s.heap.SetOf (strKind prog w) B (seen xs i) (many xs i) →
      (∀ s', Moved (B :: wr) G s s' → s'.heap.SetOf (strKind prog w) B (seen xs n) (many xs n) → R (.ok (.ret .none)) s') → codeAny (model prog w) A (.builtin "set.update.loop" ⟨[.ref B, .ref I], []⟩) R s
  | 0, i, s, hk, hi, at_, q, go => by
    obtain rfl : i = n := by omega
    refine codeAny_builtin PyProof.Rows.F.entry_set_update_loop ?_
    rw [Around.under_plainId PyProof.Rows.F.plain_set_update_loop _]
    show wpAny _ A.in1 (pyNext (.ref I) >>= _) _ _ _
    refine wpAny_bind (W.done s _ _ at_ fun s1 mv => ?_)
    exact wpAny_pure (go s1 (mv.mono fun b hb => List.mem_cons_of_mem _ hb) (set_same q fun o e => mv.heap B _ (fun z => off (W.sub _ z)) e))
  | k + 1, i, s, hk, hi, at_, q, go => by
    have lt : i < n := by omega
    refine codeAny_builtin PyProof.Rows.F.entry_set_update_loop ?_
    rw [Around.under_plainId PyProof.Rows.F.plain_set_update_loop _]
    show wpAny _ A.in1 (pyNext (.ref I) >>= _) _ _ _
    refine wpAny_bind (W.item i s _ _ lt at_ fun v s1 pv at1 mv => ?_)
    obtain ⟨t, rfl⟩ := vals i v pv
    have q1 := set_same (h' := s1.heap) q fun o e => mv.heap B _ (fun z => off (W.sub _ z)) e
    show wpAny _ _ (holding [Value.str (xs.getD i Str.empty) t] (setAdd B (.str (xs.getD i Str.empty) t)) >>= _) _ _ _
    refine wpAny_bind (wpAny_holding ?_)
    unfold setAdd
    refine wpAny_holding (wpAny_bind ((strKind prog w).pyHash (k := xs.getD i Str.empty) (strKind_is _ _ _ _) ?_))
    have room : many xs i + 1 < scanBound := by
      have := many_le xs i
      unfold scanBound
      omega
    refine wpAny_setAddHashed_of (knd := strKind prog w) (s := { s1 with toks := s1.toks + 1 }) (strKind_is _ _ _ _) rfl q1 room fun h2 but q2 => ?_
    have q3 : h2.SetOf (strKind prog w) B (seen xs (i + 1)) (many xs (i + 1)) := SetOf_congr q2 (fun z => seen_succ xs (by omega) z) rfl
    refine wpAny_pure ⟨plainId_quiet PyProof.Rows.F.plain_set_update_loop _, put_all W B off xs len few vals k (i + 1) _ (by omega) lt ?_ q3 fun s3 mv3 q4 => ?_⟩
    · refine W.frame _ s1 _ _ at1 (Nat.le_succ _) fun b hb o e => ?_
      rw [but.2 b fun z => off (z ▸ hb)]
      exact e
    · refine go s3 (Moved.trans W.gtrans ((mv.mono fun b hb => List.mem_cons_of_mem _ hb).then_heap (Nat.le_succ _) fun b o hb e => ?_) mv3) q4
      rw [but.2 b fun z => hb (z ▸ List.mem_cons_self)]
      exact e
end
section
variable {prog : Program} {w : World} {A : Around} {E : Value → Shared → Prop} {s : Shared}
abbrev newSet (led : Bool) : Obj := { cls := .type "set", dict := none, data := .set #[] 0 (.fresh 0 0 led) }
abbrev Ready (prog : Program) (w : World) (s : Shared) (xs : List Str) (t : Shared) : Prop := ∃ h' tk, t = { s with heap := h', toks := tk } ∧ h'.SetOf (strKind prog w) s.heap.objs.size (seen xs xs.length) (many xs xs.length) ∧
  ∀ b o, b < s.heap.objs.size → s.heap.get? b = some o → h'.get? b = some o
/-- the body of __init__ -/
theorem fill_set {l : Addr} {items : Array Value} {xs : List Str} {led : Bool} {Q : PySem.Fin → Shared → Prop} (hh : A.handled = none) (hl : s.heap.IsTuple l items) (hi : StrsAre items.toList xs) (few : xs.length < 1000)
    (go : ∀ t, Ready prog w s xs t → Q (.done (.ret .none)) t) : wpAny (model prog w) A (Builtin.«set.__init__» ⟨[.ref s.heap.objs.size, .ref l], []⟩) Q E { s with heap := s.heap.push (newSet led) } := by
  have at_l : l < s.heap.objs.size := let ⟨_, e, _⟩ := hl; Heap.lt_size e
  obtain ⟨⟨c, dd, dt, sl⟩, e, hc, m, hd⟩ := hl
  dsimp only at hc hd
  subst hc hd
  have e1 : (s.heap.push (newSet led)).get? l = some { cls := .type "tuple", dict := dd, data := .seq items m, slots := sl } := Heap.get?_push_of_some _ e
  have eB : (s.heap.push (newSet led)).get? s.heap.objs.size = some (newSet led) := Heap.get?_push_size _ rfl
  have tup : (s.heap.push (newSet led)).IsTuple l items := ⟨_, e1, rfl, m, rfl⟩
  have no1 := PySem.F.sub_tuple_set
  have no2 := PySem.F.sub_tuple_frozenset
  have no3 : (Value.type "tuple" == Value.type "dict") = false := by decide
  unfold Builtin.«set.__init__» noKeywords Builtin.Frozenset.updateFrom
  generalize hIt : pyIter = It
  wp_walk
  subst hIt
  refine wpAny_pyIter_tuple tup (wpAny_bind (wpAny_runValue ?_))
  have sz : (s.heap.push (newSet led)).objs.size = s.heap.objs.size + 1 := Heap.size_push _ _
  have apart : l ≠ (s.heap.push (newSet led)).objs.size := by
    rw [sz]
    exact Nat.ne_of_lt (Nat.lt_succ_of_lt at_l)
  have out : s.heap.objs.size ∉ [(s.heap.push (newSet led)).objs.size, l] := by
    rw [sz]
    intro z
    rcases List.mem_cons.mp z with z | z
    · exact absurd z (Nat.ne_of_lt (Nat.lt_succ_self _))
    · exact absurd (List.mem_singleton.mp z) (Nat.ne_of_gt at_l)
  have len : xs.length = items.size := by rw [← StrsAre.len_eq hi, Array.length_toList]
  have calm : A.in1.handled = none := by simp [hh]
  refine put_all ((Walks.tuple calm _ l apart items).toS) s.heap.objs.size out xs len (by omega) (fun i v hv => SS.strs_at hi i v (by rw [Array.getElem?_toList]; exact hv)) (items.size - 0) 0 _ (by omega) (Nat.zero_le _)
    ?here ?first ?last
  case here => exact ⟨⟨_, Heap.get?_push_size _ rfl, rfl, rfl⟩, tup.push _⟩
  case first => exact SetOf_congr ((setObjOf_fresh (knd := strKind prog w) led).setOf (Heap.get?_push_of_some _ eB) (by unfold scanBound; omega)) (fun _ => rfl) rfl
  case last =>
    intro t mv q
    obtain ⟨h', g', d', tk', os'⟩ := t
    obtain rfl : g' = s.gens := mv.gens
    obtain rfl : d' = s.drawn := mv.drawn
    obtain rfl : os' = s.os := mv.os
    show wpAny _ _ _ _ _ _
    refine wpAny_pure ?_
    show wpAny _ _ (ret Value.none) _ _ _
    refine wpAny_pure (go _ ⟨h', tk', rfl, by rw [len]; exact q, fun b o lt eb => ?_⟩)
    refine mv.heap b o (fun z => ?_) (Heap.get?_push_of_some _ (Heap.get?_push_of_some _ eb))
    rcases List.mem_cons.mp z with z | z
    · exact absurd z (Nat.ne_of_lt lt)
    · have z2 := List.mem_singleton.mp z
      rw [sz] at z2
      exact absurd z2 (Nat.ne_of_lt (Nat.lt_succ_of_lt lt))
end
section
variable {prog : Program} {w : World} {A : Around} {E : Value → Shared → Prop} {s : Shared}
/-- set(t) -/
theorem set_tuple {l : Addr} {items : Array Value} {xs : List Str} {Q : Value → Shared → Prop} (hh : A.handled = none) (hl : s.heap.IsTuple l items) (hi : StrsAre items.toList xs) (few : xs.length < 1000)
    (go : ∀ t, Ready prog w s xs t → Q (.ref s.heap.objs.size) t) : wpAny (model prog w) A (call (.type "set") [.ref l]) Q E s := by
  have F0 := PySem.F.called_set
  obtain ⟨c, tl, order⟩ := F0.mro
  have g1 := F0.made
  have g2 := F0.sub
  refine wpAny_call (codeAny_of_tree ?_)
  show wpAny _ _ (callAny (.type "set") _) _ _ _
  refine wpAny_pure ⟨Code.quiet_builtin _ (by decide +kernel), codeAny_builtin PySem.F.entry_type_call ?_⟩
  rw [Around.under_plain (weight_type_call_type "set" [.ref l] []) rfl]
  have g3 := F0.notType
  have g4 := F0.canCreate
  have g5 := PySem.F.typeCall_set_1 (.ref l)
  repeat (any_goals (first | assumption | wp_step))
  refine codeAny_mono (code_set_new_1 (.ref l) (E := E) (Q₁ := fun made s₁ => ∃ led : Bool, made = .ref s.heap.objs.size ∧ s₁ = { s with heap := s.heap.push (newSet led) }) fun led => ⟨led, rfl, rfl⟩) fun r s₁ hr => ?_
  match r, hr with
  | .error e, hr => exact hr
  | .ok (.ret made), hr =>
    obtain ⟨led, rfl, rfl⟩ := hr
    have eB : (s.heap.push (newSet led)).get? s.heap.objs.size = some (newSet led) := Heap.get?_push_size _ rfl
    have ty : Shared.TypeIs { s with heap := s.heap.push (newSet led) } (.ref s.heap.objs.size) "set" := ⟨_, eB, rfl⟩
    have g6 := F0.init.lookup
    have g7 := F0.init.bind (.ref s.heap.objs.size)
    repeat (any_goals (first | assumption | wp_step))
    refine codeAny_mono (codeAny_call_builtin (R := wants (fun r t => r = .none ∧ Ready prog w s xs t) E) F0.init.plain PySem.F.entry_set_init (check_set_init_1 ty ?_)) fun r₂ t hr₂ => ?_
    · refine fill_set (by simp [hh]) hl hi few fun t q => ?_
      exact ⟨rfl, q⟩
    · match r₂, hr₂ with
      | .error e, hr₂ => exact hr₂
      | .ok (.ret r), hr₂ =>
        obtain ⟨rfl, q⟩ := hr₂
        have go' := go _ q
        repeat (any_goals (first | assumption | wp_step))
end
section
open L2
variable {X : Cx}
/-- what len(set(t)) asks -/
def tManyT (K : PySem.W.Frag) (ta : TE) : TE := fun σ H Q => ta σ H fun x H1 => ∃ (l : Addr) (xs : List Str), x = .ref l ∧ SqT K H1 l (xs.map V.str) ∧ xs.length < 1000 ∧ Q (.int (many xs xs.length)) H1
theorem pe_many {a : Expr} {ta : TE} {p p2 q pos : Pos} (hc : X.calm = true) (hg : Gl X "len") (hm : X.mg "len" = none) (hg2 : Gl X "set") (hm2 : X.mg "set" = none) (ha : PE X a ta)
    (na : starEach [a] X.env = (false, eval a X.env) :: starEach [] X.env := by rfl) : PE X (.Call (.Name "len" p) [.Call (.Name "set" p2) [a] [] q] [] pos) (tManyT X.K ta) := by
  constructor
  intro pins s σ H Q I h
  refine Call_ (ld_blt I hg hm boot_len (PyProof.Rows.callWith_builtin1 (PyProof.Rows.args_cons (Call_ (ld_blt I hg2 hm2 boot_set ?_)) rfl) rfl rfl))
  refine PyProof.Rows.callWith_type1 (PyProof.Rows.args_cons (thn (ha.run pins s σ H _ I h) ?_) na) na rfl
  rintro v s1 ⟨x, H1, I1, r1, l, xs, rfl, hq, few, want⟩
  cases r1
  refine PyProof.Rows.args_nil ?_
  obtain ⟨its, r, pl, _⟩ := I1.tuple hq
  refine set_tuple (I1.ok.hd hc) pl (by simpa using strsAre_of r) few ?_
  rintro t ⟨h', tk, rfl, ⟨o, es, ep, tb, ho, hex, hd, _, _, _, hf, hn⟩, kept⟩
  refine PyProof.Rows.args_nil ?_
  have I2 : Inv X pins σ H1 { s1 with heap := h', toks := tk } := I1.kept fun b o e => kept b o (Heap.lt_size e) e
  have le := many_le xs xs.length
  exact call_len_set ho hex hd hf (by rw [hn]; omega) ⟨.int (many xs xs.length), H1, I2.tok _, ⟨_, by rw [hn]⟩, want⟩
end
end Vm
namespace Vm
open PySem L2
/-- all are names: texts -/
theorem DtAll.names {K : PySem.W.Frag} {H : Hp} : ∀ {xs : List V} {ts : List Tr} {n : Nat} {bs : List Addr}, DtAll K H xs ts n bs → ts.all isNm = true → ∃ ss : List Str, ts = ss.map Tr.str ∧ xs = ss.map V.str ∧ ss.all nmS = true
  | _, _, _, _, .nil, _ => ⟨[], rfl, rfl, rfl⟩
  | _, t :: _, _, _, .cons h r, e => by
    rw [List.all_cons, Bool.and_eq_true] at e
    obtain ⟨ss, e1, e2, e3⟩ := r.names e.2
    cases h with
    | @str _ x h1 h2 => exact ⟨x :: ss, by rw [e1]; rfl, by rw [e2]; rfl, by rw [List.all_cons, e3, Bool.and_true]; exact e.1⟩
    | _ => cases e.1
/-- .. that tuple -/
theorem Dt.names {K : PySem.W.Frag} {H : Hp} {v : V} {t : Tr} {n : Nat} {bs : List Addr} (d : Dt K H v t n bs) (h : areNms t = true) : ∃ (a : Addr) (ss : List Str), v = .ref a ∧ t = .tup (ss.map Tr.str) ∧ TupE K H a (ss.map V.str) ∧ ss.length ≤ 2 ∧ ss.all nmS = true := by
  have ht : isTup t = true := by
    cases t <;> first | rfl | cases h
  obtain ⟨a, xs, ts, m, cs, rfl, rfl, _, ha, r, _⟩ := d.tupD ht
  have h2 : (decide (ts.length ≤ 2) && ts.all isNm) = true := h
  rw [Bool.and_eq_true, decide_eq_true_eq] at h2
  obtain ⟨ss, rfl, rfl, e3⟩ := r.names h2.2
  exact ⟨a, ss, rfl, rfl, ha, by simpa using h2.1, e3⟩
def strOf : Tr → Option Str
  | .str x => some x
  | _ => none
def strsOf : Tr → List Str
  | .tup ts => ts.filterMap strOf
  | _ => []
def colsOk (ss : List Str) : Bool := decide (0 < ss.length) && decide ss.Nodup
def areCols (t1 t2 : Tr) : Bool := areNms t1 && (areNms t2 && colsOk (strsOf t1 ++ strsOf t2))
section
variable {X : Cx}
/-- t + u, of texts -/
def rCatS (K : PySem.W.Frag) : R2 := fun x y H Q => ∃ (a b : Addr) (ss zs : List Str), x = .ref a ∧ y = .ref b ∧ SqT K H a (ss.map V.str) ∧ SqT K H b (zs.map V.str) ∧ ss.length + zs.length ≤ sizeLine ∧
  ∀ (q : Addr) (H' : Hp), Same H H' → SqT K H' q ((ss ++ zs).map V.str) → Q (.ref q) H'
theorem op_catS : OpR X (binaryOp .Add) (rCatS X.K) := by
  intro pins s σ H x y v u Q I rx ry h
  obtain ⟨a, b, ss, zs, rfl, rfl, ha, hb, hz, q⟩ := h
  refine op_catA pins s σ H _ _ v u Q I rx ry ⟨a, b, _, _, rfl, rfl, ha, hb, by simpa using hz, fun e => ?_, fun _ e => ?_, fun _ _ p hp => ?_⟩
  · have e2 : ss = [] := by simpa using e
    subst e2
    exact q b H (Same.refl H) hb
  · have e2 : zs = [] := by simpa using e
    subst e2
    refine q a H (Same.refl H) ?_
    rw [List.append_nil]
    exact ha
  · refine q p _ (same_upd hp) ?_
    rw [List.map_append]
    exact SqT.of upd_same
/-- t + u, of tuples that were made here -/
def rCatE (K : PySem.W.Frag) : R2 := fun x y H Q => ∃ (a b : Addr) (xs ys : List V), x = .ref a ∧ y = .ref b ∧ TupE K H a xs ∧ TupE K H b ys ∧ xs.length + ys.length ≤ sizeLine ∧
  ∀ (q : Addr) (H' : Hp), Same H H' → TupE K H' q (xs ++ ys) → (q = a ∨ q = b ∨ H q = none) → Q (.ref q) H'
theorem op_catE : OpR X (binaryOp .Add) (rCatE X.K) := by
  intro pins s σ H x y v u Q I rx ry h
  obtain ⟨a, b, xs, ys, rfl, rfl, ha, hb, hz, q⟩ := h
  refine op_catF pins s σ H _ _ v u Q I rx ry ⟨a, b, _, _, rfl, rfl, ha.sq, hb.sq, hz, fun e => ?_, fun _ e => ?_, fun _ _ p o hp hd => ?_⟩
  · subst e
    exact q b H (Same.refl H) hb (.inr (.inl rfl))
  · subst e
    refine q a H (Same.refl H) ?_ (.inl rfl)
    rw [List.append_nil]
    exact ha
  · exact q p _ (same_upd hp) (.inr ⟨o, upd_same, hd⟩) (.inr (.inr hp))
end
end Vm
namespace Vm
open PySem L2
section
variable {X : Cx}
/-- C(), an own exception class without __init__ -/
theorem pe_xbare {C : Addr} {bmB : List Value} {B nid initId : String} {x : Str} {p pos : Pos} (F : ExcBaseFacts B nid initId bmB) (q : PySem.W.excIn X.K C bmB nid = true) (gC : X.mg x = some (.ref C)) (kC : PySem.W.keepIn X.K (.ref C) = true) (hg : Gl X x)
    (hdb : (x == ("__debug__" : Str)) = false := by decide) : PE X (.Call (.Name x p) [] [] pos) (fun _ H Q => ∀ a, H a = none → Q (.ref a) (upd H a (ExO (.ref C) a))) := by
  refine ⟨fun pins s σ H Q I h => ?_⟩
  refine wpAny_Call_Name_kw (ld_glob I hg gC ?_ hdb)
  refine PySem.W.callWith_K0 I.kIn kC ?_
  show wpAny _ _ (call (.ref C) []) _ _ _
  obtain ⟨bm, N, nm, qn, bs, hdct, sn, sub, ab, col, dd, k0, k1, k2, k3, k5, mN, hC, hN, hni, T⟩ := exc_obj I.kIn q
  refine wpAny_call_exc_subT F T hC hN hni (fun h' a hm => ?_) (Nat.zero_le _)
  have hn : H a = none := I.hok.gone hm.new
  obtain ⟨t, ht, _, _⟩ := hm.there
  exact ⟨.ref a, upd H a (ExO (.ref C) a), I.laidN hm.keeps hm.new hn (exO_ok ht ⟨rfl, rfl⟩ rfl rfl rfl (show 4 < 6 by decide)), rfl, h a hn⟩
end
/-- four values that make a table -/
def valid (t1 t2 t3 t4 : Tr) : Bool := isNm t1 && (areCols t2 t3 && isKey t4 (strsOf t2 ++ strsOf t3))
abbrev flds (v1 v2 v3 v4 : V) : List (Str × V) := [("name", v1), ("names", v2), ("numbers", v3), ("key", v4)]
end Vm
namespace Vm
open PySem L2
/-- a table stands at a -/
structure Tb (K : PySem.W.Frag) (H : Hp) (C a : Addr) (nm : Str) (ss zs ks : List Str) : Prop where
  ex : ∃ dx a2 a3 a4, H a = some (.ins C dx (flds (.str nm) (.ref a2) (.ref a3) (.ref a4))) ∧ TupE K H a2 (ss.map V.str) ∧ TupE K H a3 (zs.map V.str) ∧ TupE K H a4 (ks.map V.str)
  l2 : ss.length ≤ 2
  l3 : zs.length ≤ 2
  l4 : ks.length ≤ 4
theorem Tb.same {K : PySem.W.Frag} {H H' : Hp} {C a : Addr} {nm : Str} {ss zs ks : List Str} (t : Tb K H C a nm ss zs ks) (k : Same H H') : Tb K H' C a nm ss zs ks := by
  obtain ⟨⟨dx, a2, a3, a4, h, h2, h3, h4⟩, l2, l3, l4⟩ := t
  exact ⟨⟨dx, a2, a3, a4, k _ _ h, h2.same k, h3.same k, h4.same k⟩, l2, l3, l4⟩
def isRow (a b : Nat) : Tr → Bool
  | .tup ts => decide (ts.length = a + b) && ((ts.take a).all isNm && (ts.drop a).all isNum)
  | _ => false
section
variable {X : Cx}
/-- t[:k], t[k:] -/
def rCut (K : PySem.W.Frag) : V → Option Int → Option Int → Hp → VK → Prop := fun x lo hi H Q => ∃ a xs, x = .ref a ∧ SqT K H a xs ∧ ∀ (q : Addr) (H' : Hp), Same H H' → SqT K H' q (cutV xs lo hi) → Q (.ref q) H'
theorem cut_all (xs : List V) (lo hi : Option Int) (h : HT.sIx xs.length 0 lo = 0 ∧ HT.sIx xs.length xs.length hi = xs.length) : cutV xs lo hi = xs := by
  unfold cutV
  rw [h.1, h.2, List.drop_zero, Nat.sub_zero, List.take_length]
theorem sl_cut : SlR X (rCut X.K) := by
  intro pins s σ H x v vl vu lo hi sl Q I rx hs pl pu h
  obtain ⟨a, xs, rfl, hx, q⟩ := h
  refine sl_tupA pins s σ H _ v vl vu lo hi sl Q I rx hs pl pu ⟨a, xs, rfl, hx, fun z => ?_, fun _ p hp => ?_⟩
  · refine q a H (Same.refl H) ?_
    rw [cut_all xs lo hi z]
    exact hx
  · exact q p _ (same_upd hp) (SqT.of upd_same)
end
end Vm
namespace Vm
open PySem PySem.Spec PyProof.Rows L2
open AutoSeq1 (wpAny_loadPart')
open MeetsSeq
/-! for i, x in enumerate(t), t a tuple -/
theorem new_enum (t : Addr) (items : Array Value) (n : Nat) (dd : Option Addr) (sl : Array (Option Value)) :
    Meets (Builtin.«enumerate.__new__» ⟨[.type "enumerate", .ref t], []⟩) (fun _ R s => s.heap.get? t = some { cls := .type "tuple", dict := dd, data := .seq items n, slots := sl } ∧
      R (.ok (.ret (.ref (s.heap.push { cls := .type "tuple_iterator", data := .fields #[.ref t, .int 0 0] }).objs.size)))
        { s with heap := (s.heap.push { cls := .type "tuple_iterator", data := .fields #[.ref t, .int 0 0] }).push { cls := .type "enumerate", data := .fields #[.none, .bool false, .ref s.heap.objs.size, rawInt 0, .none, .none] } }) :=
  .of_wp fun prog w A R s h => by
    obtain ⟨hp, g, d, tk, os⟩ := s
    obtain ⟨hl, h⟩ := h
    have tup : hp.IsTuple t items := ⟨_, hl, rfl, n, rfl⟩
    have sub := sub_enumerate
    wp_walk using wpAny_loadPart' hl
    refine wpAny_stack_any fun st => wpAny_pure ?_
    split
    · rename_i c _ _ _ _ _
      cases (c == Value.type "enumerate") <;> (wp_walk using wpAny_loadPart' hl, wpAny_pyIter_tuple tup; exact ⟨_, rfl, h⟩)
    · wp_walk using wpAny_loadPart' hl, wpAny_pyIter_tuple tup
      exact ⟨_, rfl, h⟩
section
variable {prog : Program} {w : World} {A : Around} {E : Value → Shared → Prop} {s : Shared}
abbrev itOf (t : Addr) : Obj := { cls := .type "tuple_iterator", data := .fields #[.ref t, .int 0 0] }
theorem call_enum {t : Addr} {items : Array Value} {Q : Value → Shared → Prop} (ht : s.heap.IsTuple t items)
    (go : ∀ h', IsEnum h' (s.heap.objs.size + 1) s.heap.objs.size 0 .none → h'.IsTupleIter s.heap.objs.size t 0 → h'.objs.size = s.heap.objs.size + 2 → (∀ b o, s.heap.get? b = some o → h'.get? b = some o) →
      Q (.ref (s.heap.objs.size + 1)) { s with heap := h' }) : wpAny (model prog w) A (call (.type "enumerate") [.ref t]) Q E s := by
  obtain ⟨⟨c, dd, dt, sl⟩, hl, hc, n, hd⟩ := ht
  dsimp only at hc hd
  subst hc hd
  refine callType_new F.called_enumerate (by decide) (F.typeCall_enumerate_1 _) (F.newCall_enumerate_1 _) (fun made => F.args_object_init_2 made _) F.entry_enumerate_new (new_enum t items n dd sl) ⟨hl, ?_⟩
  have z : (s.heap.push (itOf t)).objs.size = s.heap.objs.size + 1 := Heap.size_push ..
  show _ ∧ _
  rw [z]
  have e : IsEnum ((s.heap.push (itOf t)).push { cls := .type "enumerate", data := .fields #[.none, .bool false, .ref s.heap.objs.size, rawInt 0, .none, .none] }) (s.heap.objs.size + 1) s.heap.objs.size 0 .none := by
    have y := Heap.get?_push_size (s.heap.push (itOf t)) (o := { cls := .type "enumerate", data := .fields #[.none, .bool false, .ref s.heap.objs.size, rawInt 0, .none, .none] }) rfl
    rwa [z] at y
  exact ⟨⟨_, e, rfl⟩, go _ e ⟨_, Heap.get?_push_of_some _ (Heap.get?_push_size _ rfl), rfl, rfl⟩ (by rw [Heap.size_push, z]) fun b o q => Heap.get?_push_of_some _ (Heap.get?_push_of_some _ q)⟩
end
/-- an iterator at the end of its tuple -/
theorem at_end {prog : Program} {w : World} {A : Around} (calm : A.handled = none) {it t : Addr} {items : Array Value} {i : Nat} (h : items.size ≤ i) :
    Draws prog w A it [it, t] i (fun _ _ => True) (fun j h => j = i ∧ h.IsTupleIter it t i ∧ h.IsTuple t items) where
  live := fun _ _ st => let ⟨o, ho, _⟩ := st.2.1; ⟨o, ho⟩
  frame := fun _ _ _ st k => ⟨st.1, st.2.1.at fun o e => k it (by simp) o e, st.2.2.at fun o e => k t (by simp) o e⟩
  item := fun j s Q E lt st _ => absurd st.1 (Nat.ne_of_lt lt)
  done := fun s Q E st hE => wpAny_nextOf_tuple_end calm st.2.1 st.2.2 (by simp; exact h) hE
/-- the tuple at a, each item in a new pair -/
def Itet (K : PySem.W.Frag) (a : Addr) : It :=
  ⟨fun i H => ∃ (xs : List V) (x : V), SqT K H a xs ∧ xs[i]? = some x, fun i H v H' => ∃ T x, v = .ref T ∧ H T = none ∧ H' = upd H T (.tup [.int (i : Nat), x]) ∧ ∀ xs, SqT K H a xs → xs[i]? = some x, fun i H => ∃ xs : List V, SqT K H a xs ∧ xs.length ≤ i⟩
theorem turn_enumT {P : Program} {w : World} {K : PySem.W.Frag} {elts : List Expr} {kk : Nat} {tpos : Pos} (a e it : Addr) (ae : a ≠ e) (ai : a ≠ it) :
    Turn P w K (.Tuple elts kk tpos) (Itet K a) [e, it] e (fun i h => (∃ old, IsEnum h e it ((i : Nat) : Int) old) ∧ h.IsTupleIter it a i ∧ e ≠ it) where
  mem := by simp
  obj := fun i h st b hb => by
    obtain ⟨⟨old, he⟩, ⟨o, ho, hc, hd⟩, _⟩ := st
    rcases (show b = e ∨ b = it by simpa using hb) with z | z
    · rw [z]
      exact ⟨_, he, fun v q => nomatch q⟩
    · rw [z]
      exact ⟨o, ho, fun v q => by rw [hd] at q; cases q⟩
  keep := fun i h h' st k => ⟨st.1.imp fun old he => k e (by simp) _ he, st.2.1.at fun o q => k it (by simp) o q, st.2.2⟩
  item := by
    intro X hP hw hK hc i pins s σ H E I hf st hg
    subst hP hw hK
    obtain ⟨⟨old, he⟩, hit, hne⟩ := st
    obtain ⟨xs, x, hq, hx⟩ := hg
    obtain ⟨its, rv, p, hz⟩ := I.tuple hq
    obtain ⟨u, hu, ru⟩ := rv.get hx
    have le : e < s.heap.objs.size := Heap.lt_size he
    have li : it < s.heap.objs.size := let ⟨_, q, _⟩ := hit; Heap.lt_size q
    have lt : i < its.toArray.size := by
      have := (List.getElem?_eq_some_iff.mp hu).1
      simpa using this
    have out : e ∉ [it, a] := fun z => (List.mem_cons.mp z).elim hne fun z => ae (List.mem_singleton.mp z).symm
    refine wpAny_pyNext_enum_itemD (Draws.tuple (A := X.A.in1) (by show X.A.handled = none; exact I.ok.hd hc) it a ai its.toArray) he ⟨hit, p⟩ lt hne out fun x' h' tk hx' ho st' hT hsz hk => ?_
    have ex : x' = u := by
      have e1 : its.toArray[i]? = some x' := hx'
      have e2 : its.toArray[i]? = some u := by simpa using hu
      exact Option.some.inj (e1.symm.trans e2)
    subst ex
    refine ⟨_, rfl, wpAny_letOwnedTupleGo_enum (s := { s with heap := h', toks := tk + 1 }) ho fun h2 he2 sb => ?_⟩
    have hT2 : h2.get? s.heap.objs.size = some { cls := .type "tuple", data := .seq #[.int i tk, x'] } := (sb.2 _ (Nat.ne_of_gt le)).trans hT
    have new : ObjOk X.prog X.w (upd H s.heap.objs.size (.tup [.int (i : Nat), x])) h2 s.heap.objs.size (.tup [.int (i : Nat), x]) :=
      ⟨by show 2 ≤ sizeLine; decide, [.int i tk, x'], .cons ⟨_, rfl⟩ (.cons ru .nil), ⟨_, hT2, rfl, _, rfl⟩⟩
    have I1 : Inv X pins σ (upd H s.heap.objs.size (.tup [.int (i : Nat), x])) { s with heap := h2, toks := tk + 1 } :=
      I.turnedNew (ch := [e, it]) (fun b ob hb q => (sb.2 b fun z => hb (by simp [z])).trans (hk b ob (fun z => hb (by simp [z])) (fun z => hb (by simp [z])) q)) hf (Nat.le_refl _) new
    refine ⟨.ref s.heap.objs.size, _, I1, rfl, ⟨_, x, rfl, I.hok.fresh (Nat.le_refl _), rfl, fun ys hy => by rw [I.tuple_inj hy hq]; exact hx⟩, ⟨⟨x', ?_⟩, st'.1.at fun o q => (sb.2 it (Ne.symm hne)).trans q, hne⟩, fun b hb => ?_⟩
    · rw [show ((i + 1 : Nat) : Int) = (i : Int) + 1 by omega]
      exact he2
    · have lb : b < s.heap.objs.size := by
        rcases (show b = e ∨ b = it by simpa using hb) with z | z
        · exact z ▸ le
        · exact z ▸ li
      rw [upd_ne (Nat.ne_of_lt lb)]
      exact (hf b hb).1
  done := by
    intro X hP hw hK hc i pins s σ H E I hf st hg
    subst hP hw hK
    obtain ⟨⟨old, he⟩, hit, hne⟩ := st
    obtain ⟨xs, hq, hx⟩ := hg
    obtain ⟨its, rv, p, hz⟩ := I.tuple hq
    obtain ⟨f0, f1, f2, f3, f4, f5⟩ := hf it (by simp)
    have hl := rv.length
    exact wpAny_pyNext_enum_endD (at_end (A := X.A.in1) (by show X.A.handled = none; exact I.ok.hd hc) (items := its.toArray) (i := i) (by simp; omega)) he ⟨rfl, hit, p⟩ fun h' eb => ⟨rfl, I.turned (t' := s.toks) (fun b o hb q => eb b o hb q) f0 f1 f3 f4 f5⟩
  self := fun A i s Q E st h => let ⟨⟨_, he⟩, _⟩ := st; wpAny_pyIter_enum he h
def iEnumT (K : PySem.W.Frag) (ta : TA) : TI := fun σ H R => ta σ H fun vs H1 => ∃ a xs, vs = [.ref a] ∧ SqT K H1 a xs ∧ R (Itet K a) H1
theorem pi_enumT {X : Cx} {e : Expr} {ta : TA} {p pos tpos : Pos} {elts : List Expr} {kk : Nat} (hg : Gl X "enumerate") (hm : X.mg "enumerate" = none) (ha : PA X [e] ta) (hs : starEach [e] X.env = [(false, eval e X.env)] := by rfl) :
    PI X (.Tuple elts kk tpos) (.Call (.Name "enumerate" p) [e] [] pos) (iEnumT X.K ta) := by
  constructor
  intro pins s σ H R I h
  refine Call_ (ld_blt I hg hm boot_enumerate (PyProof.Rows.callWith_type1 (thn (ha.run pos pins s σ H _ I h) ?_) hs rfl))
  rintro us s1 ⟨vs, H1, I1, r1, a, xs, rfl, hq, q⟩
  obtain ⟨u, rfl, ru⟩ := vals1 r1
  cases ru
  obtain ⟨its, rv, tup, _⟩ := I1.tuple hq
  have la : a < s1.heap.objs.size := let ⟨_, e, _⟩ := tup; Heap.lt_size e
  refine call_enum tup fun h' he hit hsz hk => wpAny_pyIter_enum he ?_
  refine ⟨s1.heap.objs.size + 1, [s1.heap.objs.size + 1, s1.heap.objs.size], _, _, H1, rfl, I1.kept (t' := s1.toks) hk, turn_enumT a (s1.heap.objs.size + 1) s1.heap.objs.size (Nat.ne_of_lt (Nat.lt_succ_of_lt la)) (Nat.ne_of_lt la), ⟨⟨.none, he⟩, hit, Nat.succ_ne_self _⟩, fun b hb => ?_, q⟩
  have far : s1.heap.objs.size ≤ b := by
    rcases (show b = s1.heap.objs.size + 1 ∨ b = s1.heap.objs.size by simpa using hb) with z | z
    · rw [z]
      exact Nat.le_succ _
    · rw [z]
      exact Nat.le_refl _
  exact I1.fpOk far (I1.hok.fresh far)
end Vm
namespace Vm
open PySem L2
def sameAt (xs ys : List V) (i : Nat) : Bool := decide (xs.getD i .non = ys.getD i .non)
end Vm
namespace Vm
open PySem L2
/-- one of the items, or of the signs, by a draw -/
def spPick (K : PySem.W.Frag) : Sp := fun vs H Q _ => ∃ (s l : Addr) (y : V) (ms : List Int) (z b : Int), vs = [.ref s, y] ∧ Src H s l ms z b ∧ 0 ≤ b ∧ b < 1000000 ∧
  ((∃ (p : Addr) (xs : List V), y = .ref p ∧ (∀ H', But s l H H' → SqL K H' p xs) ∧ 0 < xs.length ∧ xs.length ≤ 1000 ∧ ∀ (H' : Hp) (ms' : List Int) (v : V), But s l H H' → Src H' s l ms' z (b + 1) → v ∈ xs → Q v H') ∨
    ∃ t : Str, y = .str t ∧ 0 < t.length ∧ t.length ≤ 1000 ∧ ∀ (H' : Hp) (ms' : List Int) (c : Nat), But s l H H' → Src H' s l ms' z (b + 1) → c ∈ t.cps.toList → Q (.str ⟨#[c]⟩) H')
structure TxtL (K : PySem.W.Frag) (mg : Str → Option Value) (fD fP : Addr) : Prop extends TxtA K mg where
  gD : mg "_law_draw" = some (.ref fD)
  kD : PySem.W.keepIn K (.ref fD) = true
  gP : mg "_law_pick" = some (.ref fP)
  kP : PySem.W.keepIn K (.ref fP) = true
section
variable {P : Program} {w : World} {K : PySem.W.Frag} {mg : Str → Option Value} {base : Heap} {fD fP : Addr}
theorem scPick : FnScope ["_law_source_here", "_law_items"] ["_law_source_here", "_law_items"] (defScope sPick) := ⟨rfl, rfl, rfl, by decide +kernel, rfl, by decide +kernel, by decide +kernel⟩
theorem ok_pick {f : Addr} {fd fdD : FuncData} (F : Fun K "_law_pick" "_law_pick" sPick f fd) (T : TxtL K mg fD fP) (GD : FnOk P w K mg base CX0 1 fD fdD ["_law_source_here", "_law_many"] spDraw) (bD : Binds K fdD ["_law_source_here", "_law_many"] []) :
    FnOk P w K mg base CX0 2 f fd ["_law_source_here", "_law_items"] (spPick K) := by
  refine F.ok scPick (fun vs H Q E h => ?_) (fun cdv A outer s H vs Q E hr h => ?_)
  · obtain ⟨s, l, y, ms, z, b, rfl, _⟩ := h
    rfl
  · obtain ⟨a, l, y, ms, z, b, rfl, hs, b0, b1, h⟩ := h
    refine ⟨_, pss_one (ps_ret (pe_ix ix_seq (pv 1) (pe_call GD hr rfl T.gD T.kD bD .nil pass0 (pa_cons (pv 0) (pa_cons (pe_callB call_len (by rfl) T.len (by decide +kernel) (pa_cons (pv 1) pa_nil)) pa_nil))) (fun _ _ => rfl))), ?_⟩
    rcases h with ⟨p, xs, rfl, st, x0, x1, k⟩ | ⟨t, rfl, x0, x1, k⟩
    · refine ⟨_, rfl, _, rfl, _, rfl, _, xs.length, rfl, .inl ⟨xs, st H (fun _ _ _ _ e => e), rfl⟩, a, l, ms, z, b, xs.length, rfl, hs, by omega, by omega, b0, b1, fun H' ms' r k1 hs1 r0 r1 => ?_⟩
      obtain ⟨j, rfl⟩ : ∃ j : Nat, r = (j : Int) := ⟨r.toNat, by omega⟩
      have hj : j < xs.length := by omega
      exact .inl ⟨p, xs, j, xs[j], rfl, rfl, st H' k1, atI_nat (List.getElem?_eq_getElem hj), k H' ms' _ k1 hs1 (List.getElem_mem hj)⟩
    · have big : sizeLine > 1000 := by decide
      refine ⟨_, rfl, _, rfl, _, rfl, _, t.length, rfl, ⟨by omega, rfl⟩, a, l, ms, z, b, t.length, rfl, hs, by omega, by omega, b0, b1, fun H' ms' r k1 hs1 r0 r1 => ?_⟩
      obtain ⟨j, rfl⟩ : ∃ j : Nat, r = (j : Int) := ⟨r.toNat, by omega⟩
      have hl : t.length = t.cps.toList.length := by
        show t.cps.size = _
        simp
      have hj : j < t.cps.toList.length := by omega
      exact .inr (.inr ⟨t, j, t.cps.toList[j], rfl, rfl, by omega, atI_nat (List.getElem?_eq_getElem hj), k H' ms' _ k1 hs1 (List.getElem_mem hj)⟩)
end
end Vm
namespace Vm
open PySem L2
/-- a tuple stays while the source goes on -/
theorem But.sqT {K : PySem.W.Frag} {s l a : Addr} {H H' : Hp} {ms : List Int} {z b : Int} {xs : List V} (k : But s l H H') (hs : Src H s l ms z b) (h : SqT K H a xs) : SqT K H' a xs := by
  have ne : ∀ {o : HO}, H a = some o → (∀ ys, o ≠ .lst ys) → a ≠ s ∧ a ≠ l := fun {o} e n => by
    refine ⟨fun q => ?_, fun q => ?_⟩
    · rw [q, hs.hs] at e
      exact n _ (Option.some.inj e).symm
    · rw [q, hs.hl] at e
      exact n _ (Option.some.inj e).symm
  rcases h with (h | ⟨o, h⟩) | h
  · obtain ⟨n1, n2⟩ := ne h fun ys q => nomatch q
    exact .inl (.inl (k _ _ n1 n2 h))
  · obtain ⟨n1, n2⟩ := ne h fun ys q => nomatch q
    exact .inl (.inr ⟨o, k _ _ n1 n2 h⟩)
  · exact .inr h
theorem Src.free {s l : Addr} {H : Hp} {ms : List Int} {z b : Int} (h : Src H s l ms z b) {c : Addr} (e : H c = none) : c ≠ s ∧ c ≠ l := by
  refine ⟨fun q => ?_, fun q => ?_⟩
  · rw [q, h.hs] at e
    cases e
  · rw [q, h.hl] at e
    cases e
theorem But.back {s l : Addr} {H H' : Hp} {ms : List Int} {z b : Int} (k : But s l H H') (h : Src H' s l ms z b) {c : Addr} (e : H' c = none) : H c = none := by
  obtain ⟨n1, n2⟩ := h.free e
  cases q : H c with
  | none => rfl
  | some o =>
    rw [k c o n1 n2 q] at e
    cases e
end Vm
/-! data with the addresses out of sight: they keep a wish P -/
namespace Vm
open PySem L2
def DP (K : PySem.W.Frag) (H : Hp) (P : Addr → Prop) (v : V) (t : Tr) (n : Nat) : Prop := ∃ bs, Dt K H v t n bs ∧ ∀ b ∈ bs, P b
def DPs (K : PySem.W.Frag) (H : Hp) (P : Addr → Prop) (vs : List V) (ts : List Tr) (n : Nat) : Prop := ∃ bs, DtAll K H vs ts n bs ∧ ∀ b ∈ bs, P b
section
variable {K : PySem.W.Frag} {H H' : Hp} {P : Addr → Prop}
theorem DP.lvl {v : V} {t : Tr} {n m : Nat} (d : DP K H P v t n) (h : n ≤ m) : DP K H P v t m := let ⟨bs, d, p⟩ := d; ⟨bs, d.lvl h, p⟩
theorem DPs.lvl {v : List V} {t : List Tr} {n m : Nat} (d : DPs K H P v t n) (h : n ≤ m) : DPs K H P v t m := let ⟨bs, d, p⟩ := d; ⟨bs, d.lvl h, p⟩
theorem DP.keep {v : V} {t : Tr} {n : Nat} (d : DP K H P v t n) (k : ∀ b o, P b → H b = some o → H' b = some o) : DP K H' P v t n := let ⟨bs, d, p⟩ := d; ⟨bs, d.keep fun b hb o e => k b o (p b hb) e, p⟩
theorem DPs.keep {v : List V} {t : List Tr} {n : Nat} (d : DPs K H P v t n) (k : ∀ b o, P b → H b = some o → H' b = some o) : DPs K H' P v t n := let ⟨bs, d, p⟩ := d; ⟨bs, d.keep fun b hb o e => k b o (p b hb) e, p⟩
theorem DP.same {v : V} {t : Tr} {n : Nat} (d : DP K H P v t n) (k : Same H H') : DP K H' P v t n := d.keep fun b o _ e => k b o e
theorem DPs.same {v : List V} {t : List Tr} {n : Nat} (d : DPs K H P v t n) (k : Same H H') : DPs K H' P v t n := d.keep fun b o _ e => k b o e
theorem DP.imp {Q : Addr → Prop} {v : V} {t : Tr} {n : Nat} (d : DP K H P v t n) (k : ∀ b, P b → Q b) : DP K H Q v t n := let ⟨bs, d, p⟩ := d; ⟨bs, d, fun b hb => k b (p b hb)⟩
theorem DPs.imp {Q : Addr → Prop} {v : List V} {t : List Tr} {n : Nat} (d : DPs K H P v t n) (k : ∀ b, P b → Q b) : DPs K H Q v t n := let ⟨bs, d, p⟩ := d; ⟨bs, d, fun b hb => k b (p b hb)⟩
theorem DP.non {n : Nat} : DP K H P .non .non n := ⟨[], .non, fun _ h => nomatch h⟩
theorem DP.bl {n : Nat} (b : Bool) : DP K H P (.bl b) (.bl b) n := ⟨[], .bl b, fun _ h => nomatch h⟩
theorem DP.int {n : Nat} {i : Int} (h : i.natAbs.log2 < 1920) : DP K H P (.int i) (.int i) n := ⟨[], .int h, fun _ h => nomatch h⟩
theorem DP.str {n : Nat} {x : Str} (h : (reprText x).length ≤ sizeLine) (hz : x.length ≤ sizeLine) : DP K H P (.str x) (.str x) n := ⟨[], .str h hz, fun _ h => nomatch h⟩
theorem DPs.nil {n : Nat} : DPs K H P [] [] n := ⟨[], .nil, fun _ h => nomatch h⟩
theorem DPs.cons {v : V} {t : Tr} {vs : List V} {ts : List Tr} {n : Nat} (d : DP K H P v t n) (e : DPs K H P vs ts n) : DPs K H P (v :: vs) (t :: ts) n :=
  let ⟨bs, d, p⟩ := d
  let ⟨cs, e, q⟩ := e
  ⟨bs ++ cs, .cons d e, fun b hb => (List.mem_append.mp hb).elim (p b) (q b)⟩
theorem DPs.append {vs us : List V} {ts ws : List Tr} {n : Nat} (d : DPs K H P vs ts n) (e : DPs K H P us ws n) : DPs K H P (vs ++ us) (ts ++ ws) n :=
  let ⟨bs, d, p⟩ := d
  let ⟨cs, e, q⟩ := e
  ⟨bs ++ cs, d.append e, fun b hb => (List.mem_append.mp hb).elim (p b) (q b)⟩
theorem DPs.length {vs : List V} {ts : List Tr} {n : Nat} (d : DPs K H P vs ts n) : vs.length = ts.length := let ⟨_, d, _⟩ := d; d.length
theorem DPs.take {vs : List V} {ts : List Tr} {n : Nat} (d : DPs K H P vs ts n) (i : Nat) : DPs K H P (vs.take i) (ts.take i) n :=
  let ⟨bs, d, p⟩ := d
  let ⟨⟨cs, d', s⟩, _⟩ := d.part i
  ⟨cs, d', fun b hb => p b (s b hb)⟩
theorem DPs.drop {vs : List V} {ts : List Tr} {n : Nat} (d : DPs K H P vs ts n) (i : Nat) : DPs K H P (vs.drop i) (ts.drop i) n :=
  let ⟨bs, d, p⟩ := d
  let ⟨_, ⟨cs, d', s⟩⟩ := d.part i
  ⟨cs, d', fun b hb => p b (s b hb)⟩
theorem DPs.get {vs : List V} {ts : List Tr} {n : Nat} (d : DPs K H P vs ts n) {i : Nat} {v : V} (e : vs[i]? = some v) : ∃ t, ts[i]? = some t ∧ DP K H P v t n :=
  let ⟨bs, d, p⟩ := d
  let ⟨t, cs, e1, d1, s⟩ := d.get e
  ⟨t, e1, cs, d1, fun b hb => p b (s b hb)⟩
theorem DPs.reverse {n : Nat} : ∀ {vs : List V} {ts : List Tr}, DPs K H P vs ts n → DPs K H P vs.reverse ts.reverse n
  | _, _, ⟨_, .nil, _⟩ => .nil
  | v :: vs, t :: ts, ⟨_, .cons (bs := bs) (cs := cs) h r, p⟩ => by
    rw [List.reverse_cons, List.reverse_cons]
    exact (DPs.reverse ⟨cs, r, fun b hb => p b (List.mem_append_right _ hb)⟩).append (.cons ⟨bs, h, fun b hb => p b (List.mem_append_left _ hb)⟩ .nil)
theorem DP.mem {n : Nat} : ∀ {vs : List V} {ts : List Tr}, DPs K H P vs ts n → ∀ {v : V}, v ∈ vs → ∃ t ∈ ts, DP K H P v t n := fun {vs ts} d {v} h => by
  obtain ⟨i, hi, e⟩ := List.mem_iff_getElem.mp h
  obtain ⟨t, e2, d2⟩ := d.get (show vs[i]? = some v by rw [List.getElem?_eq_getElem hi, e])
  exact ⟨t, List.mem_of_getElem? e2, d2⟩
/-- a new tuple, a new list of data -/
theorem DPs.tup {vs : List V} {ts : List Tr} {n : Nat} {p : Addr} {o : Obj} (d : DPs K H P vs ts n) (hp : H p = none) (hP : P p) (hd : o.dict = none) : DP K (upd H p (.frz o (.tup vs))) P (.ref p) (.tup ts) (n + 1) :=
  let ⟨bs, d, q⟩ := d
  ⟨p :: bs, .tup upd_same hd (d.keep fun b _ o e => by
    rw [upd_ne (ne_of_none e hp)]
    exact e) (fun hm => by
      obtain ⟨o, e⟩ := d.there p hm
      rw [hp] at e
      cases e), fun b hb => (List.mem_cons.mp hb).elim (fun e => e ▸ hP) (q b)⟩
theorem DPs.lst {vs : List V} {ts : List Tr} {n : Nat} {p : Addr} (d : DPs K H P vs ts n) (hp : H p = none) (hP : P p) : DP K (upd H p (.lst vs)) P (.ref p) (.lst ts) (n + 1) :=
  let ⟨bs, d, q⟩ := d
  ⟨p :: bs, .lst upd_same (d.keep fun b _ o e => by
    rw [upd_ne (ne_of_none e hp)]
    exact e) (fun hm => by
      obtain ⟨o, e⟩ := d.there p hm
      rw [hp] at e
      cases e), fun b hb => (List.mem_cons.mp hb).elim (fun e => e ▸ hP) (q b)⟩
theorem DP.emptyDict {n : Nat} {p : Addr} (hP : P p) : DP K (upd H p (.dK [])) P (.ref p) (.dct [] []) (n + 1) :=
  ⟨[p], .dct (kvs := []) (bs := []) upd_same (fun _ h => nomatch h) .nil (fun h => nomatch h), fun b hb => List.mem_singleton.mp hb ▸ hP⟩
theorem DP.tupD {v : V} {t : Tr} {n : Nat} (d : DP K H P v t n) (h : isTup t = true) : ∃ (a : Addr) (xs : List V) (ts : List Tr) (m : Nat), v = .ref a ∧ t = .tup ts ∧ m < n ∧ TupE K H a xs ∧ DPs K H P xs ts m :=
  let ⟨bs, d, p⟩ := d
  let ⟨a, xs, ts, m, cs, e1, e2, l, te, r, s⟩ := d.tupD h
  ⟨a, xs, ts, m, e1, e2, l, te, cs, r, fun b hb => p b (s b hb)⟩
end
/-! sizes -/
mutual
/-- more than the text's length -/
def Tr.w : Tr → Nat
  | .tup xs => 3 + ws xs
  | .lst xs => 3 + ws xs
  | .non => 4
  | .bl _ => 5
  | .int i => (toString i : Str).length
  | .str x => (reprText x).length
  | .dct ks xs => (dictText (List.zipWith entryText (ks.map keyText) (texts xs))).length
def ws : List Tr → Nat
  | [] => 0
  | x :: r => (x.w + 2) + ws r
end
theorem ws_append : ∀ a b : List Tr, ws (a ++ b) = ws a + ws b
  | [], b => by
    show ws b = 0 + ws b
    omega
  | x :: r, b => by
    have h := ws_append r b
    show (x.w + 2) + ws (r ++ b) = (x.w + 2) + ws r + ws b
    omega
theorem ws_rev : ∀ a : List Tr, ws a.reverse = ws a
  | [] => rfl
  | x :: r => by
    have h := ws_rev r
    rw [List.reverse_cons, ws_append, h]
    show ws r + ((x.w + 2) + 0) = (x.w + 2) + ws r
    omega
theorem tupText_le (ts : List Str) : (tupleText ts).length ≤ 3 + ((ts.map (·.length)).sum + 2 * ts.length) := by
  have e2 := StrLaws.join_length_le ", " ts
  have e4 : (("(" : String) : Str).length = 1 := by decide +kernel
  have e5 : (((if (ts.length == 1) = true then ",)" else ")" : String)) : Str).length ≤ 2 := by
    split <;> decide +kernel
  have e6 : ((", " : String) : Str).length = 2 := by decide +kernel
  unfold tupleText
  rw [strLen_append, strLen_append]
  rw [e6] at e2
  omega
theorem lstText_le (ts : List Str) : (listText ts).length ≤ 3 + ((ts.map (·.length)).sum + 2 * ts.length) := by
  have e2 := textFrom_len_le ts 0 "["
  have e4 : (("[" : String) : Str).length = 1 := by decide +kernel
  have e5 : ((("]" : String) : Str)).length = 1 := by decide +kernel
  unfold listText
  rw [strLen_append]
  omega
mutual
theorem Tr.text_le : ∀ t : Tr, t.text.length ≤ t.w
  | .non => by
    show (("None" : String) : Str).length ≤ 4
    decide +kernel
  | .bl true => by
    show (("True" : String) : Str).length ≤ 5
    decide +kernel
  | .bl false => by
    show (("False" : String) : Str).length ≤ 5
    decide +kernel
  | .int i => Nat.le_refl _
  | .str x => Nat.le_refl _
  | .lst xs => by
    have h := texts_le xs
    have e := lstText_le (texts xs)
    show (listText (texts xs)).length ≤ 3 + ws xs
    omega
  | .tup xs => by
    have h := texts_le xs
    have e := tupText_le (texts xs)
    show (tupleText (texts xs)).length ≤ 3 + ws xs
    omega
  | .dct ks xs => Nat.le_refl _
theorem texts_le : ∀ ts : List Tr, ((texts ts).map (·.length)).sum + 2 * (texts ts).length ≤ ws ts
  | [] => Nat.zero_le _
  | x :: r => by
    have h1 := x.text_le
    have h2 := texts_le r
    show ((x.text :: texts r).map (·.length)).sum + 2 * (x.text :: texts r).length ≤ (x.w + 2) + ws r
    rw [List.map_cons, List.sum_cons, List.length_cons]
    omega
end
/-- away from the source of draws -/
def Off (s l : Addr) (b : Addr) : Prop := b ≠ s ∧ b ≠ l
theorem DP.but {K : PySem.W.Frag} {H H' : Hp} {s l : Addr} {v : V} {t : Tr} {n : Nat} (d : DP K H (Off s l) v t n) (k : But s l H H') : DP K H' (Off s l) v t n := d.keep fun b o p e => k b o p.1 p.2 e
theorem DPs.but {K : PySem.W.Frag} {H H' : Hp} {s l : Addr} {v : List V} {t : List Tr} {n : Nat} (d : DPs K H (Off s l) v t n) (k : But s l H H') : DPs K H' (Off s l) v t n := d.keep fun b o p e => k b o p.1 p.2 e
theorem Src.off {s l : Addr} {H : Hp} {ms : List Int} {z b : Int} (h : Src H s l ms z b) : ∀ c, H c = none → Off s l c := fun c e => h.free e
end Vm
/-! rules over data: slices, sums, displays -/
namespace Vm
open PySem PySem.Spec PyProof.Rows L2
def cutL {α : Type} (xs : List α) (lo hi : Option Int) : List α := (xs.drop (HT.sIx xs.length 0 lo)).take (HT.sIx xs.length xs.length hi - HT.sIx xs.length 0 lo)
section
variable {X : Cx}
theorem _root_.L2.PE.wk {e : Expr} {t t' : TE} (h : PE X e t') (m : ∀ σ H Q, t σ H Q → t' σ H Q) : PE X e t := ⟨fun pins s σ H Q I hq => h.run pins s σ H Q I (m _ _ _ hq)⟩
theorem _root_.L2.PA.wk {e : List Expr} {t t' : TA} (h : PA X e t') (m : ∀ σ H Q, t σ H Q → t' σ H Q) : PA X e t := ⟨fun pos pins s σ H Q I hq => h.run pos pins s σ H Q I (m _ _ _ hq)⟩
/-- t[lo:hi] -/
def rSlD (K : PySem.W.Frag) : V → Option Int → Option Int → Hp → VK → Prop := fun x lo hi H Q => ∃ (P : Addr → Prop) (ts : List Tr) (n : Nat), DP K H P x (.tup ts) (n + 1) ∧ (∀ b, H b = none → P b) ∧
  ∀ v H', Same H H' → DP K H' P v (.tup (cutL ts lo hi)) (n + 1) → Q v H'
theorem sl_D : SlR X (rSlD X.K) := by
  intro pins s σ H x v vl vu lo hi sl Q I rx hs pl pu h
  obtain ⟨P, ts, n, d, free, k⟩ := h
  obtain ⟨a, xs, ts', m, rfl, et, lt, te, r⟩ := d.tupD rfl
  cases et
  have len := r.length
  refine sl_tupF pins s σ H _ v vl vu lo hi sl Q I rx hs pl pu ⟨a, xs, rfl, te.sq, fun hw => ?_, fun p o hp hd => ?_⟩
  · refine k _ H (Same.refl H) ?_
    have e : cutL ts lo hi = ts := by
      unfold cutL
      rw [← len, hw.1, hw.2, List.drop_zero, Nat.sub_zero, len, List.take_length]
    rw [e]
    exact d
  · refine k _ _ (same_upd hp) ?_
    have e : DPs X.K H P (cutV xs lo hi) (cutL ts lo hi) m := by
      unfold cutV cutL
      rw [← len]
      exact (r.drop _).take _
    exact (e.tup hp (free p hp) hd).lvl (by omega)
/-- t + u -/
def rCatD (K : PySem.W.Frag) : R2 := fun x y H Q => ∃ (P : Addr → Prop) (ts us : List Tr) (n : Nat), DP K H P x (.tup ts) (n + 1) ∧ DP K H P y (.tup us) (n + 1) ∧ ts.length + us.length ≤ sizeLine ∧ (∀ b, H b = none → P b) ∧
  ∀ v H', Same H H' → DP K H' P v (.tup (ts ++ us)) (n + 1) → Q v H'
theorem op_catD : OpR X (binaryOp .Add) (rCatD X.K) := by
  intro pins s σ H x y v u Q I rx ry h
  obtain ⟨P, ts, us, n, d1, d2, hz, free, k⟩ := h
  obtain ⟨a, xs, ts', m, rfl, et, lt, te, r⟩ := d1.tupD rfl
  cases et
  obtain ⟨b, ys, us', m2, rfl, et, lt2, te2, r2⟩ := d2.tupD rfl
  cases et
  have l1 := r.length
  have l2 := r2.length
  refine op_catF pins s σ H _ _ v u Q I rx ry ⟨a, b, xs, ys, rfl, rfl, te.sq, te2.sq, by omega, fun e => ?_, fun _ e => ?_, fun _ _ p o hp hd => ?_⟩
  · subst e
    have e : ts = [] := List.length_eq_zero_iff.mp l1.symm
    subst e
    exact k _ H (Same.refl H) d2
  · subst e
    have e : us = [] := List.length_eq_zero_iff.mp l2.symm
    subst e
    refine k _ H (Same.refl H) ?_
    rw [List.append_nil]
    exact d1
  · refine k _ _ (same_upd hp) ?_
    exact (((r.lvl (Nat.le_of_lt_succ lt)).append (r2.lvl (Nat.le_of_lt_succ lt2))).tup hp (free p hp) hd)
/-- t[::-1] -/
def tRevD (K : PySem.W.Frag) (te : TE) : TE := fun σ H Q => te σ H fun x H1 => ∃ (P : Addr → Prop) (ts : List Tr) (n : Nat), DP K H1 P x (.tup ts) (n + 1) ∧ (∀ b, H1 b = none → P b) ∧ ∀ v H', Same H1 H' → DP K H' P v (.tup ts.reverse) (n + 1) → Q v H'
theorem pe_revD {e : Expr} {te : TE} {k : Nat} {p1 p2 p3 pos : Pos} (he : PE X e te) : PE X (.Subscript e (.Slice none none (some (.UnaryOp .USub (.Constant (.int 1) k p1) p2)) p3) pos) (tRevD X.K te) := by
  refine ⟨fun pins s σ H Q I h => ?_⟩
  have he2 : PE X e (fun σ H Q => ∃ R : VK, te σ H R ∧ ∀ x H1, R x H1 → Q x H1) := ⟨fun pins s σ H Q I ⟨R, h1, h2⟩ => wpAny_mono (he.run pins s σ H R I h1) (fun u s' ⟨x, H', I', r', q⟩ => ⟨x, H', I', r', h2 x H' q⟩) fun _ _ e => e⟩
  refine (pe_revT (k := k) (p1 := p1) (p2 := p2) (p3 := p3) (pos := pos) he2).run pins s σ H Q I ⟨_, h, fun x H1 q => ?_⟩
  obtain ⟨P, ts, n, d, free, k⟩ := q
  obtain ⟨a, xs, ts', m, rfl, et, lt, tE, r⟩ := d.tupD rfl
  cases et
  exact ⟨a, xs, rfl, tE.sq, fun p o hp hd => k _ _ (same_upd hp) ((r.reverse.tup hp (free p hp) hd).lvl (by omega))⟩
/-- list(t) -/
theorem call_listD : CallR X (.type "list") (fun xs H Q => ∃ (P : Addr → Prop) (v : V) (ts : List Tr) (n : Nat), xs = [v] ∧ DP X.K H P v (.tup ts) (n + 1) ∧ (∀ b, H b = none → P b) ∧ ∀ v' H', Same H H' → DP X.K H' P v' (.lst ts) (n + 1) → Q v' H') := by
  intro pins s σ H xs us Q I r h
  obtain ⟨P, v, ts, n, rfl, d, free, k⟩ := h
  obtain ⟨a, xs, ts', m, rfl, et, lt, te, r2⟩ := d.tupD rfl
  cases et
  exact call_list_of pins s σ H _ us Q I r ⟨a, xs, rfl, .inr te.sq, fun p hp => k _ _ (same_upd hp) ((r2.lst hp (free p hp)).lvl (by omega))⟩
end
/-! written data: all that it lays is new -/
abbrev NewIn (H : Hp) : Addr → Prop := fun b => H b = none
def tDt (K : PySem.W.Frag) (t : Tr) (n : Nat) : TE := fun σ H Q => ∀ v H', Same H H' → DP K H' (NewIn H) v t n → Q v H'
def tDs (K : PySem.W.Frag) (ts : List Tr) (n : Nat) : TA := fun σ H Q => ∀ vs H', Same H H' → DPs K H' (NewIn H) vs ts n → Q vs H'
section
variable {X : Cx}
theorem pd_nil {n : Nat} : PA X [] (tDs X.K [] n) := pa_nil.wk fun σ H Q h => h [] H (Same.refl H) .nil
theorem pd_cons {e : Expr} {es : List Expr} {t : Tr} {ts : List Tr} {n : Nat} (ha : PE X e (tDt X.K t n)) (hr : PA X es (tDs X.K ts n)) (hs : starEach (e :: es) X.env = (false, eval e X.env) :: starEach es X.env := by rfl) : PA X (e :: es) (tDs X.K (t :: ts) n) :=
  (pa_cons ha hr hs).wk fun σ H Q h v H1 s1 d vs H2 s2 ds => h _ _ (s1.trans s2) (.cons (d.same s2) (ds.imp fun b e => s1.free e))
theorem pd_tup {es : List Expr} {ts : List Tr} {n : Nat} {pos : Pos} {x1} (h : PA X es (tDs X.K ts n)) (hz : ts.length ≤ 1000) : PE X (.Tuple es x1 pos) (tDt X.K (.tup ts) (n + 1)) :=
  (pe_tupF h).wk fun σ H Q k vs H1 s1 ds => ⟨by
    have : sizeLine > 1000 := by decide
    rw [ds.length]
    omega, fun p o hp hd => k _ _ (s1.trans (same_upd hp)) (ds.tup hp (s1.free hp) hd)⟩
theorem pd_lst {es : List Expr} {ts : List Tr} {n : Nat} {pos : Pos} (h : PA X es (tDs X.K ts n)) (hz : ts.length ≤ 1000) : PE X (.List es pos) (tDt X.K (.lst ts) (n + 1)) :=
  (pe_lst h).wk fun σ H Q k vs H1 s1 ds => ⟨by
    have : sizeLine > 1000 := by decide
    rw [ds.length]
    omega, fun p hp => k _ _ (s1.trans (same_upd hp)) (ds.lst hp (s1.free hp))⟩
theorem pd_dict {n : Nat} {pos : Pos} : PE X (.Dict [] [] pos) (tDt X.K (.dct [] []) (n + 1)) :=
  pe_dnewK.wk fun σ H Q k p hp => k _ _ (same_upd hp) (.emptyDict hp)
theorem pd_of {e : Expr} {v : V} {t : Tr} {n : Nat} (h : PE X e (tC v)) (d : ∀ H, DP X.K H (NewIn H) v t n) : PE X e (tDt X.K t n) := h.wk fun σ H Q k => k _ H (Same.refl H) (d H)
end
/-! t.index(x), of a tuple that was made here -/
section
variable {X : Cx} {o e : Expr} {es : List Expr} {to : TE} {t : TA} {apos cpos : Pos} {id : String} {r : V → List V → Hp → VK → Prop} {name : Str}
def tBMF (r : V → List V → Hp → VK → Prop) (to : TE) (t : TA) : TE := fun σ H Q => to σ H fun x H1 => (∃ (a : Addr) (ob : Obj) (xs : List V), x = .ref a ∧ H1 a = some (.frz ob (.tup xs)) ∧ ob.dict = none) ∧ t σ H1 fun xs H2 => r x xs H2 Q
theorem pe_bmF (pa : PlainAttrs "tuple") (slot : Slot "tuple" name id) (hty : typeOf (.builtin id) = pure (.type "method_descriptor")) (hm : MtR X id r) (ho : PE X o to) (ha : PA X (e :: es) t)
    (hbase : attributeBase o name X.env (eval o X.env) = eval o X.env := by rfl)
    (hfew : ((backTo cpos (starEach (e :: es) X.env)).all (fun x => !x.1) && (backToKw cpos (keywordEach [] X.env)).all (fun x => x.1.isSome)
      && decide ((e :: es).length + ([] : List Keyword).length + (if ([] : List Keyword).isEmpty then 0 else 1) < 30)) = true := by rfl)
    (hline : (apos.endLine == cpos.line) = true := by rfl) (hs : starEach (e :: es) X.env = (false, eval e X.env) :: starEach es X.env := by rfl) (hplain : (backTo cpos (starEach es X.env)).any (·.1) = false := by rfl) :
    PE X (.Call (.Attribute o name apos) (e :: es) [] cpos) (tBMF r to t) := by
  refine ⟨fun pins s σ H Q I h => ?_⟩
  refine wpAny_Call_method_late hbase hfew hline rfl (thn (ho.run pins s σ H _ I h) fun v s1 ⟨x, H1, I1, r1, ⟨a, ob, xs, ex, ha1, hd⟩, q1⟩ => ?_)
  subst ex
  cases r1
  obtain ⟨h1, _, its, _, o2, h2, hc, _⟩ := I1.hok _ _ ha1
  have e2 : o2 = ob := Option.some.inj (h2.symm.trans h1)
  subst e2
  refine ⟨"tuple", id, pa, slot, hty, ⟨_, h1, hc⟩, fun a' e' => ?_, ?_⟩
  · cases e'
    exact ⟨_, h1, hd⟩
  have hA := ha.run cpos pins s1 σ H1 _ I1 q1
  rw [hs] at hA ⊢
  refine Calls.callWith_builtin (by show (false || (backTo cpos (starEach es X.env)).any (·.1)) = false; rw [hplain] <;> rfl) (Calls.evalArgs_plain ?_)
  exact thn hA fun us s2 ⟨vs, H2, I2, r2, q2⟩ => hm pins s2 σ H2 (.ref a) vs (.ref a) us Q I2 rfl r2 q2
end
end Vm
namespace Vm
open PySem L2
/-! texts as plain data -/
theorem depthStrs : ∀ ss : List Str, PyData.depthAll (ss.map PyData.str) = 0
  | [] => rfl
  | x :: r => by
    have h := depthStrs r
    simp only [List.map_cons, PyData.depthAll, PyData.depth, h, Nat.max_self]
theorem dpStrs (K : PySem.W.Frag) (H : Hp) : ∀ ss : List Str, DpAll K H (ss.map V.str) (ss.map PyData.str)
  | [] => .nil
  | x :: r => .cons (.str x) (dpStrs K H r)
theorem eqvStrs : ∀ ss zs : List Str, PyData.eqvAll (ss.map PyData.str) (zs.map PyData.str) = decide (ss = zs)
  | [], [] => rfl
  | [], z :: s => rfl
  | x :: r, [] => rfl
  | x :: r, z :: s => by
    have h := eqvStrs r s
    show (x == z && PyData.eqvAll (r.map PyData.str) (s.map PyData.str)) = _
    rw [h]
    by_cases q : x = z
    · subst q
      rw [beq_self_eq_true, Bool.true_and]
      by_cases q2 : r = s
      · rw [decide_eq_true q2, decide_eq_true (by rw [q2])]
      · rw [decide_eq_false q2, decide_eq_false fun w => q2 (List.cons.inj w).2]
    · rw [beq_eq_false_iff_ne.mpr q, Bool.false_and, decide_eq_false fun w => q (List.cons.inj w).1]
/-! two ways to say a clash -/
/-- a table's arguments that are right -/
structure Good (nm : Str) (ss zs ks : List Str) : Prop where
  n1 : nmS nm = true
  n2 : ss.all nmS = true
  n3 : zs.all nmS = true
  n4 : ks.all nmS = true
  l2 : ss.length ≤ 2
  l3 : zs.length ≤ 2
  l4 : ks.length ≤ 4
  ne : 0 < (ss ++ zs).length
  nd : (ss ++ zs).Nodup
  sub : ∀ k ∈ ks, k ∈ ss ++ zs
theorem DPs.set {K : PySem.W.Frag} {H : Hp} {P : Addr → Prop} {n : Nat} {v : V} {t : Tr} (d : DP K H P v t n) : ∀ {vs : List V} {ts : List Tr} (j : Nat), DPs K H P vs ts n → DPs K H P (vs.set j v) (ts.set j t) n
  | _, _, _, ⟨_, .nil, _⟩ => .nil
  | _ :: _, _ :: _, 0, ⟨_, .cons (bs := bs) (cs := cs) h r, p⟩ => .cons d ⟨cs, r, fun b hb => p b (List.mem_append_right _ hb)⟩
  | _ :: _, _ :: _, j + 1, ⟨_, .cons (bs := bs) (cs := cs) h r, p⟩ => .cons ⟨bs, h, fun b hb => p b (List.mem_append_left _ hb)⟩ (DPs.set d j ⟨cs, r, fun b hb => p b (List.mem_append_right _ hb)⟩)
/-- the defs that are called -/
structure Calls (K : PySem.W.Frag) (mg : Str → Option Value) (x : Str) (f : Addr) : Prop where
  g : mg x = some (.ref f)
  k : PySem.W.keepIn K (.ref f) = true
end Vm
/-! rows: tuples of names and integers that were made here; in, ==, sorted, remove -/
namespace Vm
open PySem PySem.Spec PyProof.Rows L2
inductive Cell where
  | s (x : Str)
  | i (n : Int)
deriving DecidableEq
abbrev Row := List Cell
def Cell.v : Cell → V
  | .s x => .str x
  | .i n => .int n
def Cell.t : Cell → Tr
  | .s x => .str x
  | .i n => .int n
def Cell.d : Cell → PyData
  | .s x => .str x
  | .i n => .int n
def Cell.isS : Cell → Bool
  | .s _ => true
  | .i _ => false
def rowT (r : Row) : Tr := .tup (r.map Cell.t)
def rowD (r : Row) : PyData := .tuple (r.map Cell.d)
def RwAt (H : Hp) (v : V) (r : Row) : Prop := ∃ (p : Addr) (o : Obj), v = .ref p ∧ H p = some (.frz o (.tup (r.map Cell.v))) ∧ o.dict = none
abbrev RowsAt (H : Hp) : List V → List Row → Prop := PySem.W.EachIs (RwAt H)
/-- tuples that were made here stay -/
def Fz (H H' : Hp) : Prop := ∀ b o xs, H b = some (.frz o (.tup xs)) → H' b = some (.frz o (.tup xs))
theorem But.fz {s l : Addr} {H H' : Hp} {ms : List Int} {z b : Int} (k : But s l H H') (hs : Src H s l ms z b) : Fz H H' := fun c o xs e => k _ _ (fun q => by
  rw [q, hs.hs] at e
  cases e) (fun q => by
  rw [q, hs.hl] at e
  cases e) e
/-! lists that go together -/
section
variable {α β : Type} {R : α → β → Prop}
theorem each_append : ∀ {a c : List α} {b d : List β}, PySem.W.EachIs R a b → PySem.W.EachIs R c d → PySem.W.EachIs R (a ++ c) (b ++ d)
  | _, _, _, _, .nil, h => h
  | _, _, _, _, .cons h r, q => .cons h (each_append r q)
theorem each_get : ∀ {a : List α} {b : List β}, PySem.W.EachIs R a b → ∀ {i : Nat} {x : α}, a[i]? = some x → ∃ y, b[i]? = some y ∧ R x y
  | _, _, .nil, _, _, e => nomatch e
  | _, _, .cons h r, 0, _, e => ⟨_, rfl, Option.some.inj e ▸ h⟩
  | _, _, .cons h r, i + 1, _, e => each_get r (i := i) e
theorem each_get' : ∀ {a : List α} {b : List β}, PySem.W.EachIs R a b → ∀ {i : Nat} {y : β}, b[i]? = some y → ∃ x, a[i]? = some x ∧ R x y
  | _, _, .nil, _, _, e => nomatch e
  | _, _, .cons h r, 0, _, e => ⟨_, rfl, Option.some.inj e ▸ h⟩
  | _, _, .cons h r, i + 1, _, e => each_get' r (i := i) e
theorem each_erase : ∀ {a : List α} {b : List β}, PySem.W.EachIs R a b → ∀ i, PySem.W.EachIs R (a.eraseIdx i) (b.eraseIdx i)
  | _, _, .nil, _ => .nil
  | _, _, .cons h r, 0 => r
  | _, _, .cons h r, i + 1 => .cons h (each_erase r i)
theorem each_set : ∀ {a : List α} {b : List β}, PySem.W.EachIs R a b → ∀ i {x y}, R x y → PySem.W.EachIs R (a.set i x) (b.set i y)
  | _, _, .nil, _, _, _, _ => .nil
  | _, _, .cons h r, 0, _, _, q => .cons q r
  | _, _, .cons h r, i + 1, _, _, q => .cons h (each_set r i q)
end
section
variable {K : PySem.W.Frag} {H : Hp}
theorem cellsDp : ∀ r : Row, DpAll K H (r.map Cell.v) (r.map Cell.d)
  | [] => .nil
  | .s x :: r => .cons (.str x) (cellsDp r)
  | .i n :: r => .cons (.int n) (cellsDp r)
theorem RwAt.dp {v : V} {r : Row} (h : RwAt H v r) : Dp K H v (rowD r) := by
  obtain ⟨p, o, rfl, h, _⟩ := h
  exact .tup (.inl (.inr ⟨o, h⟩)) (cellsDp r)
theorem rows_dp : ∀ {vs : List V} {rs : List Row}, RowsAt H vs rs → DpAll K H vs (rs.map rowD)
  | _, _, .nil => .nil
  | _, _, .cons h r => .cons h.dp (rows_dp r)
end
theorem cells_plain : ∀ r : Row, PyData.plainAll (r.map Cell.d) = true
  | [] => rfl
  | .s x :: r => by
    show (true && PyData.plainAll (r.map Cell.d)) = true
    rw [cells_plain r]
    rfl
  | .i x :: r => by
    show (true && PyData.plainAll (r.map Cell.d)) = true
    rw [cells_plain r]
    rfl
theorem row_plain (r : Row) : (rowD r).plain = true := cells_plain r
theorem rows_plain : ∀ rs : List Row, PyData.plainAll (rs.map rowD) = true
  | [] => rfl
  | r :: rs => by
    show ((rowD r).plain && PyData.plainAll (rs.map rowD)) = true
    rw [row_plain, rows_plain rs]
    rfl
theorem cells_depth : ∀ r : Row, PyData.depthAll (r.map Cell.d) = 0
  | [] => rfl
  | .s x :: r => by
    show max 0 (PyData.depthAll (r.map Cell.d)) = 0
    rw [cells_depth r]
    rfl
  | .i x :: r => by
    show max 0 (PyData.depthAll (r.map Cell.d)) = 0
    rw [cells_depth r]
    rfl
theorem row_depth (r : Row) : (rowD r).depth = 1 := by
  unfold rowD
  simp only [PyData.depth, cells_depth r]
theorem cells_eqv : ∀ r q : Row, PyData.eqvAll (r.map Cell.d) (q.map Cell.d) = decide (r = q)
  | [], [] => rfl
  | [], _ :: _ => rfl
  | _ :: _, [] => rfl
  | a :: r, b :: q => by
    show (PyData.eqv a.d b.d && PyData.eqvAll (r.map Cell.d) (q.map Cell.d)) = _
    rw [cells_eqv r q]
    have e : PyData.eqv a.d b.d = decide (a = b) := by
      cases a with
      | s x =>
        cases b with
        | s y =>
          show (x == y) = _
          by_cases h : x = y
          · subst h
            rw [beq_self_eq_true, decide_eq_true rfl]
          · rw [beq_eq_false_iff_ne.mpr h, decide_eq_false fun q => h (Cell.s.inj q)]
        | i m => 
          rw [decide_eq_false (fun q => nomatch q)]
          rfl
      | i n =>
        cases b with
        | s y => 
          rw [decide_eq_false (fun q => nomatch q)]
          rfl
        | i m =>
          show (n == m) = _
          by_cases h : n = m
          · subst h
            rw [beq_self_eq_true, decide_eq_true rfl]
          · rw [beq_eq_false_iff_ne.mpr h, decide_eq_false fun q => h (Cell.i.inj q)]
    rw [e]
    by_cases h : a = b
    · subst h
      rw [decide_eq_true rfl, Bool.true_and]
      exact decide_eq_decide.mpr ⟨fun e => by rw [e], fun e => (List.cons.inj e).2⟩
    · rw [decide_eq_false h, Bool.false_and, decide_eq_false fun e => h (List.cons.inj e).1]
theorem row_eqv (r q : Row) : PyData.eqv (rowD r) (rowD q) = decide (r = q) := cells_eqv r q
theorem rows_any (r : Row) : ∀ rs : List Row, ((rs.map rowD).any fun z => PyData.eqv z (rowD r)) = decide (r ∈ rs)
  | [] => rfl
  | q :: rs => by
    rw [List.map_cons, List.any_cons, rows_any r rs, row_eqv]
    by_cases h : q = r
    · subst h
      rw [decide_eq_true rfl, Bool.true_or, decide_eq_true List.mem_cons_self]
    · rw [decide_eq_false h, Bool.false_or]
      exact decide_eq_decide.mpr ⟨List.mem_cons_of_mem _, fun m => (List.mem_cons.mp m).resolve_left fun e => h e.symm⟩
section
variable {X : Cx}
/-- row in rows: a tuple of rows or a list of rows -/
def rInR (K : PySem.W.Frag) (neg : Bool) : R2 := fun x y H Q => ∃ (r : Row) (q : Addr) (vs : List V) (rs : List Row), RwAt H x r ∧ y = .ref q ∧ (SqT K H q vs ∨ SqL K H q vs) ∧ RowsAt H vs rs ∧ Q (.bl (if neg then !decide (r ∈ rs) else decide (r ∈ rs))) H
theorem op_inR (hu : X.A.units + 8 < cLine) : OpR X (compareOp .In) (rInR X.K false) := by
  intro pins s σ H x y v u Q I rx ry h
  obtain ⟨r, q, vs, rs, hr, rfl, hq, hrs, k⟩ := h
  obtain ⟨as, r1⟩ := Dp.reads I (rowD r) x v hr.dp rx
  have hd := row_depth r
  have room : X.A.units + 1 + min (PyData.depthAll (rs.map rowD)) (rowD r).depth < cLine := by omega
  rcases hq with hq | hq
  · obtain ⟨bs, r2⟩ := Dp.reads I (.tuple (rs.map rowD)) _ u (.tup hq (rows_dp hrs)) ry
    refine SeqAt.in_tuple_data r2 r1 (rows_plain rs) (row_plain r) room ⟨.bl _, H, I, rfl, ?_⟩
    rw [rows_any]
    exact k
  · obtain ⟨bs, r2⟩ := Dp.reads I (.list (rs.map rowD)) _ u (.lst hq (rows_dp hrs)) ry
    refine SeqAt.in_list_data r2 r1 (rows_plain rs) (row_plain r) room ⟨.bl _, H, I, rfl, ?_⟩
    rw [rows_any]
    exact k
theorem op_notInR (hu : X.A.units + 8 < cLine) : OpR X (compareOp .NotIn) (rInR X.K true) := by
  intro pins s σ H x y v u Q I rx ry h
  obtain ⟨r, q, vs, rs, hr, rfl, hq, hrs, k⟩ := h
  obtain ⟨as, r1⟩ := Dp.reads I (rowD r) x v hr.dp rx
  have hd := row_depth r
  have room : X.A.units + 1 + min (PyData.depthAll (rs.map rowD)) (rowD r).depth < cLine := by omega
  rcases hq with hq | hq
  · obtain ⟨bs, r2⟩ := Dp.reads I (.tuple (rs.map rowD)) _ u (.tup hq (rows_dp hrs)) ry
    refine SeqAt.notIn_tuple_data r2 r1 (rows_plain rs) (row_plain r) room ⟨.bl _, H, I, rfl, ?_⟩
    rw [rows_any]
    exact k
  · obtain ⟨bs, r2⟩ := Dp.reads I (.list (rs.map rowD)) _ u (.lst hq (rows_dp hrs)) ry
    refine SeqAt.notIn_list_data r2 r1 (rows_plain rs) (row_plain r) room ⟨.bl _, H, I, rfl, ?_⟩
    rw [rows_any]
    exact k
/-- data without dicts: ==, != -/
def rEqP (K : PySem.W.Frag) (neg : Bool) : R2 := fun x y H Q => ∃ (d e : PyData), Dp K H x d ∧ Dp K H y e ∧ d.plain = true ∧ e.plain = true ∧ d.depth ≤ 6 ∧ Q (.bl (if neg then !PyData.eqv d e else PyData.eqv d e)) H
theorem op_eqP (hu : X.A.units + 8 < cLine) : OpR X (compareOp .Eq) (rEqP X.K false) := by
  intro pins s σ H x y v u Q I rx ry h
  obtain ⟨d, e, hd, he, p1, p2, dd, k⟩ := h
  obtain ⟨as, r1⟩ := Dp.reads I d x v hd rx
  obtain ⟨bs, r2⟩ := Dp.reads I e y u he ry
  exact SeqAt.eq_plain r1 r2 p1 p2 (by omega) ⟨.bl _, H, I, rfl, k⟩
theorem op_neP (hu : X.A.units + 8 < cLine) : OpR X (compareOp .NotEq) (rEqP X.K true) := by
  intro pins s σ H x y v u Q I rx ry h
  obtain ⟨d, e, hd, he, p1, p2, dd, k⟩ := h
  obtain ⟨as, r1⟩ := Dp.reads I d x v hd rx
  obtain ⟨bs, r2⟩ := Dp.reads I e y u he ry
  exact SeqAt.ne_plain r1 r2 p1 p2 (by omega) ⟨.bl _, H, I, rfl, k⟩
end
/-! the order of rows -/
def rowK (r : Row) : List (Int ⊕ List Nat) := PySem.W.keyToks (rowD r)
def leR : Row → Row → Bool := PySem.W.sortLe (listOrd itemOrd) false rowK
def sortR (rs : List Row) : List Row := rs.mergeSort leR
def shp (r : Row) : List Bool := r.map Cell.isS
theorem cells_alike : ∀ {r q : Row}, shp r = shp q → PySem.W.alikeAll (r.map Cell.d) (q.map Cell.d) = true
  | [], [], _ => rfl
  | [], _ :: _, e => nomatch e
  | _ :: _, [], e => nomatch e
  | a :: r, b :: q, e => by
    have e2 : a.isS = b.isS ∧ shp r = shp q := List.cons.inj e
    have ih := cells_alike e2.2
    show (PySem.W.alike a.d b.d && PySem.W.alikeAll (r.map Cell.d) (q.map Cell.d)) = true
    rw [ih, Bool.and_true]
    cases a <;> cases b <;> first | rfl | exact nomatch e2.1
theorem row_alike {r q : Row} (e : shp r = shp q) : PySem.W.alike (rowD r) (rowD q) = true := by
  show PySem.W.alikeAll (r.map Cell.d) (q.map Cell.d) = true
  exact cells_alike e
section
variable {X : Cx}
theorem vals_rows {pins : List (Addr × Obj)} {σ : L2.St} {H : Hp} {s : Shared} (I : Inv X pins σ H s) : ∀ {vs : List V} {us : List Value} {rs : List Row}, Vals vs us → RowsAt H vs rs → PySem.W.EachIs (fun u r => (∃ p, u = Value.ref p ∧ RwAt H (.ref p) r) ∧ ∃ as, PySem.Reads s.heap u (rowD r) as) us rs
  | _, _, _, .nil, .nil => .nil
  | _, _, _, .cons r rt, .cons h t => by
    obtain ⟨as, rd⟩ := Dp.reads I (rowD _) _ _ (h.dp (K := X.K)) r
    obtain ⟨p, o, rfl, h2, h3⟩ := h
    cases r
    exact .cons ⟨⟨p, rfl, p, o, rfl, h2, h3⟩, as, rd⟩ (vals_rows I rt t)
theorem rows_vals {H : Hp} : ∀ {us : List Value} {rs : List Row}, PySem.W.EachIs (fun u r => ∃ p, u = Value.ref p ∧ RwAt H (.ref p) r) us rs → ∃ vs, Vals vs us ∧ RowsAt H vs rs
  | _, _, .nil => ⟨[], .nil, .nil⟩
  | _, _, .cons ⟨p, e, h⟩ t => by
    subst e
    obtain ⟨vs, a, b⟩ := rows_vals t
    exact ⟨.ref p :: vs, .cons rfl a, .cons h b⟩
/-- sorted(rows) -/
def rSortR (K : PySem.W.Frag) : List V → Hp → VK → Prop := fun xs H Q => ∃ (p : Addr) (vs : List V) (rs : List Row) (c : Bool) (cs : List Bool), xs = [.ref p] ∧ SqL K H p vs ∧ RowsAt H vs rs ∧ (∀ r ∈ rs, shp r = c :: cs) ∧
  ∀ (q : Addr) (vs' : List V), H q = none → RowsAt H vs' (sortR rs) → Q (.ref q) (upd H q (.lst vs'))
theorem call_sortedR (hu : X.A.units + 8 < cLine) : CallR X (.builtin "sorted") (rSortR X.K) := by
  intro pins s σ H vs us Q I r h
  obtain ⟨p, xs, rs, c, cs, rfl, hp, hrs, hsh, k⟩ := h
  obtain ⟨its, rv, hl, hz⟩ := I.list hp
  rw [Vals.ref1 r]
  have ev := vals_rows I rv hrs
  have lit : its.length ≤ sizeLine := by
    rw [← rv.length]
    exact hz
  generalize hh : PySem.W.sortingHeap (PySem.W.copyHeap s.heap its) (s.heap.objs.size + 1) its = hS
  have old : ∀ b o, s.heap.get? b = some o → hS.get? b = some o := fun b o e => by
    rw [← hh]
    exact PySem.W.sorting_copy_old e
  have ev2 : PySem.W.EachIs (fun u (d : PyData) => ∃ as, PySem.Reads hS u d as) its (rs.map rowD) := by
    have m : ∀ {us : List Value} {qs : List Row}, PySem.W.EachIs (fun u r => (∃ p, u = Value.ref p ∧ RwAt H (.ref p) r) ∧ ∃ as, PySem.Reads s.heap u (rowD r) as) us qs → PySem.W.EachIs (fun u (d : PyData) => ∃ as, PySem.Reads hS u d as) us (qs.map rowD) := by
      intro us qs z
      induction z with
      | nil => exact .nil
      | cons a _ ih =>
        obtain ⟨_, as, rd⟩ := a
        exact .cons ⟨as, PySem.W.reads_keeps old rd⟩ ih
    exact m ev
  have al : PySem.W.AllAlike (rs.map rowD) := by
    intro d hd d' hd'
    obtain ⟨a, ha, rfl⟩ := List.mem_map.mp hd
    obtain ⟨b, hb, rfl⟩ := List.mem_map.mp hd'
    exact row_alike ((hsh a ha).trans (hsh b hb).symm)
  have so : PySem.W.Sortable (rs.map rowD) := .inl fun d hd => by
    obtain ⟨a, ha, rfl⟩ := List.mem_map.mp hd
    have e := hsh a ha
    cases a with
    | nil => exact nomatch e
    | cons x t => exact ⟨x.d, t.map Cell.d, rfl⟩
  have S : PySem.W.SortsAt X.prog X.w X.A.in1.in1 { s with heap := hS } (PySem.W.dataKind hS (rs.map rowD)) its := PySem.W.SortsAt.data (s := { s with heap := hS }) ev2 al so fun d hd => by
    obtain ⟨a, ha, rfl⟩ := List.mem_map.mp hd
    rw [row_depth]
    show X.A.units + 1 + 1 + 1 < cLine
    omega
  refine PySem.W.sorted_vals (κ := PySem.W.dataKind hS (rs.map rowD)) hl.isList (by rw [hh]; exact S) lit ?_
  have hk : PySem.W.EachIs (fun v r => (PySem.W.dataKind hS (rs.map rowD)).keyOf v = some (rowK r)) its rs := by
    have m : ∀ {us : List Value} {qs : List Row}, (∀ r ∈ qs, r ∈ rs) → PySem.W.EachIs (fun u r => (∃ p, u = Value.ref p ∧ RwAt H (.ref p) r) ∧ ∃ as, PySem.Reads s.heap u (rowD r) as) us qs → PySem.W.EachIs (fun v r => (PySem.W.dataKind hS (rs.map rowD)).keyOf v = some (rowK r)) us qs := by
      intro us qs sub z
      induction z with
      | nil => exact .nil
      | cons a _ ih =>
        obtain ⟨_, as, rd⟩ := a
        exact .cons (PySem.W.dataKind_some al (List.mem_map.mpr ⟨_, sub _ List.mem_cons_self, rfl⟩) (PySem.W.reads_keeps old rd)) (ih fun r hr => sub r (List.mem_cons_of_mem _ hr))
    exact m (fun _ h => h) ev
  have out := PySem.W.sortVals_each (κ := PySem.W.dataKind hS (rs.map rowD)) (rev := false) (R := fun u r => ∃ p, u = Value.ref p ∧ RwAt H (.ref p) r) rowK (ev.mono fun _ _ z => z.1) hk
  obtain ⟨vs', v1, v2⟩ := rows_vals out
  have hlen : (PySem.W.sortVals (PySem.W.dataKind hS (rs.map rowD)) false its its).length = its.length := PySem.W.sortVals_length false rfl
  obtain ⟨ep, he⟩ := sortedAll_at s.heap its (PySem.W.sortVals (PySem.W.dataKind hS (rs.map rowD)) false its its).toArray
  have lv : vs'.length ≤ sizeLine := by
    rw [v1.length, hlen]
    exact lit
  exact ⟨.ref _, upd H (s.heap.objs.size + 1) (.lst vs'), I.laid (t' := s.toks) (fun _ _ => sortedAll_old) (Nat.le_succ _) ⟨lv, _, ep, v1, he⟩, rfl, k _ _ (I.hok.fresh (Nat.le_succ _)) v2⟩
/-- rows.remove(row), a row that is there -/
def rRemR (K : PySem.W.Frag) : V → List V → Hp → VK → Prop := fun x xs H Q => ∃ (l : Addr) (y : V) (r : Row) (vs : List V) (rs : List Row), x = .ref l ∧ xs = [y] ∧ H l = some (.lst vs) ∧ RwAt H y r ∧ RowsAt H vs rs ∧ r ∈ rs ∧
  ∀ vs', RowsAt H vs' (rs.erase r) → vs'.length ≤ vs.length → Q .non (upd H l (.lst vs'))
theorem mt_removeR (hu : X.A.units + 8 < cLine) : MtR X "list.remove" (rRemR X.K) := by
  intro pins s σ H x xs v us Q I rx rxs h
  obtain ⟨l, y, r, vs, rs, rfl, rfl, hl, hy, hrs, mem, k⟩ := h
  cases rx
  cases rxs with
  | cons ry rt =>
    rename_i uy ut
    cases rt
    obtain ⟨z, its, n, rv, el, e0⟩ := I.lstM hl
    obtain ⟨as, rd⟩ := Dp.reads I (rowD r) y uy (hy.dp (K := X.K)) ry
    obtain ⟨bs, rds⟩ := Dp.readsAll I (rs.map rowD) vs its (rows_dp (K := X.K) hrs) rv
    have hd := row_depth r
    have lt := List.idxOf_lt_length_of_mem mem
    have place : SeqAt.dataPlace (rs.map rowD) (rowD r) = some (rs.idxOf r) := by
      unfold SeqAt.dataPlace
      rw [List.findIdx?_map]
      have e : ((fun y => PyData.eqv y (rowD r)) ∘ rowD) = fun q : Row => q == r := by
        funext q
        show PyData.eqv (rowD q) (rowD r) = _
        rw [row_eqv]
        by_cases h : q = r
        · subst h
          rw [beq_self_eq_true, decide_eq_true rfl]
        · rw [beq_eq_false_iff_ne.mpr h, decide_eq_false h]
      rw [e]
      exact List.findIdx?_eq_some_of_exists ⟨r, mem, beq_self_eq_true r⟩
    have lsz : its.toArray.size ≤ sizeLine := by
      rw [List.size_toArray, ← el]
      exact z
    refine SeqAt.remove_list_data (vs := its.toArray) (xs := rs.map rowD) (j := rs.idxOf r) ⟨_, e0, rfl, n, rfl⟩ rds rd (rows_plain rs) (row_plain r) (by omega) place lsz ?_
    have r2 : Vals (vs.eraseIdx (rs.idxOf r)) (its.eraseIdx (rs.idxOf r)) := rv.eraseIdx _
    have le : (vs.eraseIdx (rs.idxOf r)).length ≤ vs.length := by
      rw [List.length_eraseIdx]
      split <;> omega
    refine ⟨.non, _, I.lset (its' := its.eraseIdx (rs.idxOf r)) hl e0 ?_ r2 (Nat.le_trans le z), rfl, k _ ?_ le⟩
    · show its.toArray.eraseIdxIfInBounds _ = (its.eraseIdx _).toArray
      rw [List.eraseIdxIfInBounds_toArray]
    · rw [List.erase_eq_eraseIdx_of_idxOf rfl]
      exact each_erase hrs _
end
end Vm
/-! a, b, *r = t -/
namespace Vm
open PySem PySem.Spec PySem.Calls PyProof.Rows PySem.W L2
section
variable {prog : Program} {w : World} {A : Around} {E : Value → Shared → Prop} {s : Shared}
theorem unpackLast {l : Addr} {items : Array Value} {i : Nat} {Q : List Value → Shared → Prop} (hl : IsTup s.heap l items) (hh : A.handled = none) (hn : i ≤ items.size) (hz : items.size ≤ 16384)
    (h : ∀ (h' : Heap) tk, (∀ b o, s.heap.get? b = some o → h'.get? b = some o) → Q (items.toList.take i ++ [.ref h'.objs.size]) { s with heap := h'.push (seqObj "list" (items.toList.drop i).toArray 0), toks := tk }) :
    wpAny (model prog w) A (unpackItems (.ref l) (i + 1) (some i)) Q E s := by
  have hlt : l ≠ s.heap.objs.size := by obtain ⟨o, ho, _⟩ := hl; exact Nat.ne_of_lt (Heap.lt_size ho)
  have hll : l < s.heap.objs.size := by obtain ⟨o, ho, _⟩ := hl; exact Heap.lt_size ho
  unfold unpackItems
  refine wpAny_bind ?_
  unfold notIterableAtAll
  refine wpAny_bind (wpAny_specialOf hl.typeIs slot_tuple_iter.lookup ?_)
  refine wpAny_pure ?_
  simp only [Bool.false_eq_true, if_false]
  refine wpAny_bind (wpAny_holding (iter_tuple hl ?_))
  refine wpAny_bind (wpAny_holding (draw_tuple hlt i 0 _ _ ⟨_, Heap.get?_push_size _ rfl, rfl, rfl⟩ (hl.push _) (by omega) fun h₁ hit₁ hs₁ => ?_))
  have hl₁ : IsTup h₁ l items := (hl.push _).extBut hs₁.extBut hlt
  rw [Nat.zero_add] at hit₁
  have hit₁' := hit₁
  obtain ⟨oi, hoi, _⟩ := hit₁'
  have hl₁' := hl₁
  obtain ⟨ol, hol, _⟩ := hl₁'
  rw [List.drop_zero]
  have hfl : (items.toList.take i).length = i := by rw [List.length_take, Array.length_toList]; omega
  rw [if_neg (show ¬ ((items.toList.take i).length < i) by rw [hfl]; omega)]
  refine wpAny_bind (wpAny_holding (kun_collect (s := { s with heap := h₁ }) (T := "tuple_iterator") (.inr (.inr (.inr rfl))) (Walks.tuple (A := A.in1) hh s.heap.objs.size l hlt items) (fun j u st => st.1.typeIs) (k := i) (by omega) ⟨hit₁, hl₁⟩ (Heap.lt_size hoi) (Heap.lt_size hol) (fun h₂ tk hk => ?_) (by rw [sizeLine_eq]; omega)))
  have hrl : (items.toList.drop i).length = items.size - i := by rw [List.length_drop, Array.length_toList]
  have hmid : (items.toList.drop i).length - (i + 1 - 1 - i) = (items.toList.drop i).length := by omega
  show wpAny _ _ (if (items.toList.drop i).length < i + 1 - 1 - i then _ else _) _ _ _
  rw [if_neg (by omega)]
  show wpAny _ _ (newList ((items.toList.drop i).take ((items.toList.drop i).length - (i + 1 - 1 - i))) >>= fun d => pure (items.toList.take i ++ [d] ++ (items.toList.drop i).drop ((items.toList.drop i).length - (i + 1 - 1 - i)))) _ _ _
  rw [hmid, List.take_length, List.drop_length]
  have he : Heap.ExtBut s.heap.objs.size s.heap h₂ := fun b o hb e => hk b o hb (hs₁.extBut b o hb (Heap.get?_push_of_some _ e))
  have hold : ∀ b o, s.heap.get? b = some o → h₂.get? b = some o := fun b o e => he b o (Nat.ne_of_lt (Heap.lt_size e)) e
  refine wpAny_bind (wpAny_newList ?_ (by rw [hrl, sizeLine_eq]; omega))
  refine wpAny_pure ?_
  rw [List.append_nil]
  exact h h₂ tk hold
end
section
variable {X : Cx} {pos : Pos}
/-- a, b, .., *r = a tuple: n names ahead of the starred one -/
def gStar (K : PySem.W.Frag) (n : Nat) (t : TGs) : TG := fun v σ H Q => ∃ a xs, v = .ref a ∧ SqT K H a xs ∧ n ≤ xs.length ∧ xs.length ≤ 16384 ∧ ∀ D, H D = none → t (xs.take n ++ [.ref D]) σ (upd H D (.lst (xs.drop n))) Q
theorem vals_take : ∀ {xs : List V} {us : List Value} (n : Nat), Vals xs us → Vals (xs.take n) (us.take n)
  | _, _, 0, _ => .nil
  | _, _, _ + 1, .nil => .nil
  | _, _, n + 1, .cons r t => .cons r (vals_take n t)
theorem vals_drop : ∀ {xs : List V} {us : List Value} (n : Nat), Vals xs us → Vals (xs.drop n) (us.drop n)
  | _, _, 0, h => h
  | _, _, _ + 1, .nil => .nil
  | _, _, n + 1, .cons r t => vals_drop n t
theorem pg_star {es : List Expr} {k : Nat} {t : TGs} {n : Nat} (hc : X.calm = true) (h : PGs X es t)
    (hn : (assignEach es X.env).length = n + 1 := by rfl) (hst : (assignEach es X.env).findIdx? (·.1) = some n := by rfl) : PG X (.Tuple es k pos) (gStar X.K n t) := by
  refine ⟨fun pins s σ H v u Q I r hw => ?_⟩
  obtain ⟨a, xs, e1, hq, hl, hz, hw⟩ := hw
  subst e1
  cases r
  obtain ⟨its, rv, ht, _⟩ := I.tuple hq
  have lx := rv.length
  rw [assign_Tuple]
  refine wpAny_bind (wpAny_standAt ?_)
  unfold unpack
  rw [hn, hst]
  refine wpAny_bind (wpAny_holding (unpackLast ht (I.ok.hd hc) (by rw [List.size_toArray]; omega) (by rw [List.size_toArray]; omega) fun h' tk hx => ?_))
  have I1 : Inv X pins σ H { s with heap := h', toks := tk } := I.kept (t' := tk) hx
  have r2 : Vals (xs.drop n) (its.drop n) := vals_drop n rv
  have lz : (xs.drop n).length ≤ sizeLine := by
    rw [List.length_drop, sizeLine_eq]
    omega
  have I2 : Inv X pins σ (upd H h'.objs.size (.lst (xs.drop n))) { s with heap := h'.push (seqObj "list" (its.drop n).toArray 0), toks := tk } :=
    I1.laid (t' := tk) (fun b o e => Heap.get?_push_of_some _ e) (Nat.le_refl _) ⟨lz, its.drop n, 0, r2, Heap.get?_push_size _ rfl⟩
  have tv : Vals [V.ref h'.objs.size] [Value.ref h'.objs.size] := .cons rfl .nil
  have fin := h.run pins _ σ _ _ (its.take n ++ [.ref h'.objs.size]) Q I2 ((vals_take n rv).append tv) (hw _ (I1.hok.fresh (Nat.le_refl _)))
  exact fin
end
end Vm
/-! d.get(text) of a written dict; a text == any data -/
namespace Vm
open PySem PySem.Spec PyProof.Rows L2
section
variable {X : Cx} {o e : Expr} {apos cpos : Pos} {td ty : TE} {d : Addr} {es : Array DictEntry} {n : Nat}
def tKGet (K : PySem.W.Frag) (d : Addr) (td ty : TE) : TE := fun σ H Q => td σ H fun x H1 => x = .ref d ∧ ty σ H1 fun y H2 => ∃ (z : Str) (r : Option Value) (v : V), y = .str z ∧ PySem.W.nsIn K d z = some r ∧ RelV v (r.getD .none) ∧ Q v H2
theorem pe_kget (D : KDict X.K X.w d es n) (ho : PE X o td) (he : PE X e ty) (m : M1 X o "get" apos e cpos) : PE X (.Call (.Attribute o "get" apos) [e] [] cpos) (tKGet X.K d td ty) := by
  refine ⟨fun pins s σ H Q I h => ?_⟩
  refine wpAny_Call_method m.base m.few m.line PySem.F.plainAttrs_dict PySem.F.slot_dict_get PySem.F.type_dict_get (thn (ho.run pins s σ H _ I h) fun u s1 ⟨x, H1, I1, rx, ex, q1⟩ => ?_)
  subst ex
  obtain rfl : u = Value.ref d := rx
  have hm := PySem.W.mapOf_K (prog := X.prog) (w := X.w) I1.kIn D.at_ D.lit
  refine ⟨hm.typeIs, fun a e => ⟨_, I1.kIn _ _ (Value.ref.inj e ▸ D.at_), rfl⟩, ?_⟩
  rw [m.trees]
  refine Calls.callWith_builtin rfl (Calls.evalArgs_plain (Calls.spliced_cons (thn (he.run pins s1 σ H1 _ I1 q1) fun iv s2 ⟨y, H2, I2, ry, z, r, v, ey, en, rv, q2⟩ => Calls.spliced_nil ?_)))
  subst ey
  obtain ⟨t, rfl⟩ := (show ∃ t, iv = Value.str z t from ry)
  have hm2 := PySem.W.mapOf_K (prog := X.prog) (w := X.w) I2.kIn D.at_ D.lit
  refine call_meetsIn PySem.F.slot_dict_get hm2.typeIs PySem.F.entry_dict_get (PySem.F.args_dict_get_2 _ _) (meets_dict_get (PySem.strKind X.prog X.w) d (PySem.strKind_is X.prog X.w z t) D.low) ⟨_, hm2, v, H2, I2.tok _, ?_, q2⟩
  rw [PySem.W.find_K D.at_ en]
  exact rv
end
end Vm
namespace Vm
open PySem SeqAt MeetsSeq
open AutoSeq1 (wpAny_loadPart')
section
variable {A : Around} {s : Shared}
theorem rc_str_dict {l : Addr} {dd : Option Addr} {es : Array DictEntry} {n : Nat} {sl : Array (Option Value)} (b : Str) (u : Tok) (ho : s.heap.get? l = some (dob dd es n sl)) (hu : A.units < cLine) : RcAt A s (.str b u) (.ref l) false := fun prog w E Q h =>
  rc_eq_decline_or (k := false) (typeIs_str s b u) ⟨_, ho, rfl⟩ (by decide) F.sub_dict_str F.slot_str_eq F.slot_dict_eq_refl
    (fun _ q => call_meets F.slot_str_eq (typeIs_str s b u) F.entry_str_eq (F.args_str_eq_2 _ _) (str_no_dict b u l dd es n sl) ⟨ho, q⟩)
    (fun _ q => call_meets F.slot_dict_eq_refl ⟨_, ho, rfl⟩ F.entry_dict_eq (F.args_dict_eq_2 _ _) (dict_no_str l dd es n sl b u) ⟨ho, q⟩)
    (fun _ q => wpAny_of_eq (rfl : isSame (.str b u) (.ref l) = pure false) q) (.inr hu) h
theorem rc_str_dict' {l : Addr} {o : Obj} {es : Array DictEntry} {n : Nat} (b : Str) (u : Tok) (ho : s.heap.get? l = some o) (hc : o.cls = .type "dict") (hd : o.data = .dict es n) (hu : A.units < cLine) : RcAt A s (.str b u) (.ref l) false := by
  obtain ⟨c, dd, dt, sl⟩ := o
  dsimp only at hc hd
  subst hc hd
  exact rc_str_dict b u ho hu
end
open L2
/-- a text beside any data -/
theorem Dt.strRc {X : Cx} {pins : List (Addr × Obj)} {σ : St} {H : Hp} {s : Shared} {A : Around} (I : Inv X pins σ H s) {v : V} {t : Tr} {n : Nat} {bs : List Addr} {u : Value} (d : Dt X.K H v t n bs) (r : RelV v u) (x : Str) (k : Tok) (hu : A.units < cLine) : RcAt A s (.str x k) u (isS x t) := by
  cases d with
  | non =>
    cases r
    exact .str_none x k
  | bl b =>
    cases r
    exact .str_bool x k b
  | int h =>
    obtain ⟨t, rfl⟩ := r
    exact .str_int x k _ t
  | @str _ y h hz =>
    obtain ⟨t, rfl⟩ := r
    have e : isS x (.str y) = (x == y) := by
      show (y == x) = (x == y)
      exact Bool.beq_comm
    rw [e]
    exact .str_str x k y t
  | lst h rs na =>
    cases r
    obtain ⟨its, rv, pl, _⟩ := I.list (.inl (.inl h))
    exact .str_list x k pl.isList hu
  | emp h =>
    cases r
    obtain ⟨its, rv, pl, _⟩ := I.tuple (.inr h)
    exact .str_tuple x k pl hu
  | tup h nd rs na =>
    cases r
    obtain ⟨its, rv, pl, _⟩ := I.tuple (.inl (.inr ⟨_, h⟩))
    exact .str_tuple x k pl hu
  | dct h kf rs na =>
    cases r
    obtain ⟨z, hs, vs, kv, o, es, ep, e, ex, dd, _⟩ := I.hok _ _ h
    exact rc_str_dict' x k e ex.1 dd hu
section
variable {X : Cx}
/-- a text == any data -/
def rEqSD (K : PySem.W.Frag) : R2 := fun x y H Q => ∃ (z : Str) (t : Tr) (n : Nat) (bs : List Addr), x = .str z ∧ Dt K H y t n bs ∧ Q (.bl (isS z t)) H
theorem op_eqSD (hu : X.A.units < cLine) : OpR X (compareOp .Eq) (rEqSD X.K) := by
  intro pins s σ H x y v u Q I rx ry h
  obtain ⟨z, t, n, bs, rfl, d, q⟩ := h
  obtain ⟨k, rfl⟩ := rx
  exact d.strRc I ry z k hu X.prog X.w _ _ ⟨.bl _, H, I, rfl, q⟩
end
end Vm
/-! table_named, _taken_and_put, _clashes -/
namespace Vm
open PySem L2
/-- what a table is -/
structure Ti where
  nm : Str
  ss : List Str
  zs : List Str
  ks : List Str
def Ti.ok (t : Ti) : Prop := Good t.nm t.ss t.zs t.ks
/-- a value that is this table -/
def TbAt (K : PySem.W.Frag) (H : Hp) (C : Addr) (v : V) (t : Ti) : Prop := ∃ a, v = .ref a ∧ Tb K H C a t.nm t.ss t.zs t.ks
abbrev TbsAt (K : PySem.W.Frag) (H : Hp) (C : Addr) : List V → List Ti → Prop := PySem.W.EachIs (TbAt K H C)
theorem TbAt.same {K : PySem.W.Frag} {H H' : Hp} {C : Addr} {v : V} {t : Ti} (h : TbAt K H C v t) (k : Same H H') : TbAt K H' C v t := let ⟨a, e, h⟩ := h; ⟨a, e, h.same k⟩
/-! _taken_and_put -/
def insS : Str := "insert"
def takenR {α : Type} (kd : Str) (ws : List α) : List α := if kd = insS then [] else ws.take 1
def putR {α : Type} (kd : Str) (ws : List α) : List α := if kd = insS then ws else ws.drop 1
/-! _clashes -/
/-- a row's form -/
def okC : Bool → Cell → Bool
  | true, .s x => nmS x
  | false, .i _ => true
  | _, _ => false
structure Row.ok (ti : Ti) (r : Row) : Prop where
  len : r.length = ti.ss.length + ti.zs.length
  cell : ∀ i c, r[i]? = some c → okC (decide (i < ti.ss.length)) c = true
end Vm
/-! is_possible_in, rows_after -/
namespace Vm
open PySem L2
section
variable {α β : Type} {R : α → β → Prop}
theorem each_take : ∀ {a : List α} {b : List β} (n : Nat), PySem.W.EachIs R a b → PySem.W.EachIs R (a.take n) (b.take n)
  | _, _, 0, _ => .nil
  | _, _, _ + 1, .nil => .nil
  | _, _, n + 1, .cons h t => .cons h (each_take n t)
theorem each_drop : ∀ {a : List α} {b : List β} (n : Nat), PySem.W.EachIs R a b → PySem.W.EachIs R (a.drop n) (b.drop n)
  | _, _, 0, h => h
  | _, _, _ + 1, .nil => .nil
  | _, _, n + 1, .cons h t => each_drop n t
theorem each_taken {a : List α} {b : List β} (kd : Str) (h : PySem.W.EachIs R a b) : PySem.W.EachIs R (takenR kd a) (takenR kd b) := by
  unfold takenR
  by_cases e : kd = insS
  · rw [if_pos e, if_pos e]
    exact .nil
  · rw [if_neg e, if_neg e]
    exact each_take 1 h
theorem each_put {a : List α} {b : List β} (kd : Str) (h : PySem.W.EachIs R a b) : PySem.W.EachIs R (putR kd a) (putR kd b) := by
  unfold putR
  by_cases e : kd = insS
  · rw [if_pos e, if_pos e]
    exact h
  · rw [if_neg e, if_neg e]
    exact each_drop 1 h
end
theorem each_filter {H : Hp} : ∀ {xs : List V} {rs : List Row} (p : Row → Bool), RowsAt H xs rs → ∃ ys, RowsAt H ys (rs.filter p)
  | _, _, _, .nil => ⟨[], .nil⟩
  | x :: _, r :: _, p, .cons h t => by
    obtain ⟨ys, q⟩ := each_filter p t
    by_cases e : p r = true
    · rw [List.filter_cons, if_pos e]
      exact ⟨_, .cons h q⟩
    · rw [List.filter_cons, if_neg e]
      exact ⟨_, q⟩
end Vm
namespace Vk
open PySem
/-! a family of exception classes: own classes above `tail`, made by the built-in newId of the class nB, set up by the built-in initId of the class iB -/
structure Fam (nB newId nInit iB initId : String) (nTail tail : List Value) : Prop where
  F : ExcBaseFacts nB newId nInit nTail
  hasN : tail.contains (.type nB) = true
  hasI : tail.contains (.type iB) = true
  hasB : tail.contains (.type "BaseException") = true
  hasO : tail.contains (.type "object") = true
  noA : tail.contains (.type "AttributeError") = false
  noN : tail.contains (.type "NameError") = false
  iPlain : plainId initId = true
  iEntry : entryFor table initId = some Builtin.«BaseException.__init__»
  iSplit : splitId initId = some (iB, "__init__")
  iKind : builtinKind initId = some .slot
  iRow : Manifest.signature? initId = some ⟨.positional, "*", iB, .self, [⟨"args", .varPos, false⟩]⟩
  iStar : (iB != "*") = true
  passes : ∀ self : Value, refuseLoop self "__setattr__" tail = pure ()
/-- the mro above the class itself: own classes, then the tail -/
def Above (tail : List Value) : List Value → Prop
  | .ref _ :: r => Above tail r
  | l => l = tail
theorem above_has {tail : List Value} (X : String) : ∀ {l : List Value}, Above tail l → l.contains (.type X) = tail.contains (.type X)
  | [], h => by rw [show ([] : List Value) = tail from h]
  | .ref c :: r, h => by
    rw [List.contains_cons, above_has X (l := r) h]
    rfl
  | .none :: r, h => by rw [show (Value.none :: r) = tail from h]
  | .ellipsis :: r, h => by rw [show (Value.ellipsis :: r) = tail from h]
  | .notImplemented :: r, h => by rw [show (Value.notImplemented :: r) = tail from h]
  | .bool b :: r, h => by rw [show (Value.bool b :: r) = tail from h]
  | .int i t :: r, h => by rw [show (Value.int i t :: r) = tail from h]
  | .float i t :: r, h => by rw [show (Value.float i t :: r) = tail from h]
  | .str i t :: r, h => by rw [show (Value.str i t :: r) = tail from h]
  | .bytes i t :: r, h => by rw [show (Value.bytes i t :: r) = tail from h]
  | .type i :: r, h => by rw [show (Value.type i :: r) = tail from h]
  | .builtin i :: r, h => by rw [show (Value.builtin i :: r) = tail from h]
end Vk
namespace Vk
open PySem Builtin Builtin.ObjectAttr
/-- a fresh exception, its arguments at tp -/
abbrev exNew (C tp : Addr) : Obj := { cls := .ref C, data := .fields #[.ref tp, .none, .none, .none, .bool false, .none] }
section
variable {M : Model} {prog : Program} {w : World} {A : Around} {E : Value → Shared → Prop} {R : Result → Shared → Prop} {h : Heap} {g : Array GenState} {d : Drawn} {t : Nat} {os : OsState}
variable {nm q : Str} {C N : Addr} {bs bm : List Value} {hdct : Bool} {sn : List Str} {sub : List Value} {ab : Bool} {col : Option Bool} {dd : Option Addr} {k0 k1 k2 k3 k5 : Option Value}
variable {nB newId nInit iB initId : String} {nTail tail : List Value}
theorem fam_check_new (Z : Fam nB newId nInit iB initId nTail tail) (up : Above tail bm) {rest : List Value} {kw : List (Str × Value)} {Q : Unit → Shared → Prop}
    (cl : h.get? C = some (excClassObj nm q C N bs bm hdct sn sub ab col dd k0 k1 k2 k3 k5 newId)) (go : Q () ⟨h, g, d, t, os⟩) : wpAny M A (checkBuiltinCall newId ⟨.ref C :: rest, kw⟩) Q E ⟨h, g, d, t, os⟩ := by
  have isB : (Value.ref C :: bm).contains (.type nB) = true := by
    rw [List.contains_cons, above_has nB up, Z.hasN, Bool.or_true]
  have nStar := Z.F.noStar
  simp only [checkBuiltinCall, Z.F.newKind, Z.F.newSplit, Z.F.newRow]
  repeat (first
    | refine wpAny_loadPart_at cl ?_
    | (refine wpAny_isSubtype_exc cl ?_; rw [isB])
    | refine wpAny_staticBase_exc cl ?_
    | refine wpAny_madeBy_exc cl ?_
    | simp only [bne_self_eq_false, Bool.false_eq_true, if_false]
    | wp_step)
  exact go
theorem fam_new (Z : Fam nB newId nInit iB initId nTail tail) (up : Above tail bm) {rest : List Value} {kw : List (Str × Value)}
    (cl : h.get? C = some (excClassObj nm q C N bs bm hdct sn sub ab col dd k0 k1 k2 k3 k5 newId)) (sz : rest.length ≤ sizeLine)
    (go : R (.ok (.ret (.ref (h.objs.size + 1)))) ⟨(h.push { cls := .type "tuple", data := .seq rest.toArray }).push (exNew C h.objs.size), g, d, t, os⟩) :
    codeAny (model prog w) A (.builtin newId ⟨.ref C :: rest, kw⟩) R ⟨h, g, d, t, os⟩ := by
  have fe := Z.F.ends
  have isB : (Value.ref C :: bm).contains (.type nB) = true := by
    rw [List.contains_cons, above_has nB up, Z.hasN, Bool.or_true]
  have isA : (Value.ref C :: bm).contains (.type "AttributeError") = false := by
    rw [List.contains_cons, above_has _ up, Z.noA]
    rfl
  have isN : (Value.ref C :: bm).contains (.type "NameError") = false := by
    rw [List.contains_cons, above_has _ up, Z.noN]
    rfl
  refine codeAny_builtinAt Z.F.entry ?_
  unfold Builtin.«BaseException.__new__»
  refine wpAt_bind ?_
  show wpAt _ _ _ (stack >>= _) _ _ _
  refine wpAt_bind (wpAt_stack fun p below => wpAt_of_wpAny ?_)
  wp_walk
  refine wpAt_of_wpAny ?_
  rw [Z.F.owner]
  repeat (first
    | with_reducible refine wpAny_madeHere_exc Z.F.canon cl ?_
    | with_reducible refine wpAny_loadPart_at cl ?_
    | (with_reducible refine wpAny_isSubtype_exc cl ?_; first | rw [isB] | rw [isA] | rw [isN])
    | wp_step)
  show R _ _
  rw [Heap.size_push]
  exact go
theorem fam_check_init (Z : Fam nB newId nInit iB initId nTail tail) (up : Above tail bm) {e : Addr} {oe : Obj} {rest : List Value} {Q : Unit → Shared → Prop}
    (cl : h.get? C = some (excClassObj nm q C N bs bm hdct sn sub ab col dd k0 k1 k2 k3 k5 newId)) (he : h.get? e = some oe) (hc : oe.cls = .ref C) (go : Q () ⟨h, g, d, t, os⟩) :
    wpAny M A (checkBuiltinCall initId ⟨.ref e :: rest, []⟩) Q E ⟨h, g, d, t, os⟩ := by
  have isB : (Value.ref C :: bm).contains (.type iB) = true := by
    rw [List.contains_cons, above_has iB up, Z.hasI, Bool.or_true]
  have nStar := Z.iStar
  simp only [checkBuiltinCall, Z.iKind, Z.iSplit, Z.iRow]
  repeat (first
    | (with_reducible refine wpAny_loadPart_at he ?_; rw [hc])
    | with_reducible refine wpAny_loadPart_at cl ?_
    | (with_reducible refine wpAny_isSubtype_exc cl ?_; rw [isB])
    | wp_step)
  refine wpAny_onRaise ?_
  have st : ∀ (a b : String) (n : Nat), Bind.check ⟨.positional, "*", iB, .self, [⟨"args", .varPos, false⟩]⟩ a b n (List.map (fun x => x.fst) ({ pos := Value.ref e :: rest } : Args).kw) = pure () := fun a b n => check_star_args _ _ _ _ _ _
  rw [st]
  exact wpAny_pure go
/-- the built-in __init__ on a fresh exception -/
theorem fam_init (Z : Fam nB newId nInit iB initId nTail tail) (up : Above tail bm) {e tp : Addr} {rest : List Value} (cl : h.get? C = some (excClassObj nm q C N bs bm hdct sn sub ab col dd k0 k1 k2 k3 k5 newId))
    (he : h.get? e = some (exNew C tp)) (sz : rest.length ≤ sizeLine)
    (go : ∀ h' t1, (∀ b o, b ≠ e → h.get? b = some o → h'.get? b = some o) → h'.get? e = some (exNew C t1) → R (.ok (.ret .none)) ⟨h', g, d, t, os⟩) :
    codeAny (model prog w) A (.call (.builtin initId) ⟨.ref e :: rest, []⟩) R ⟨h, g, d, t, os⟩ := by
  refine codeAny_call_builtin Z.iPlain Z.iEntry (fam_check_init Z up cl he rfl ?_)
  wp_walk
  refine go _ h.objs.size (fun b o nb ho => ?_) ?_
  · exact (Heap.get?_update_other _ _ (Ne.symm nb)).trans (Heap.get?_push_of_some _ ho)
  · refine (Heap.get?_update_self _ (Heap.get?_push_of_some _ he) rfl).trans ?_
    rfl
/-- the class is called: the built-in __new__, then the class's own __init__ -/
theorem fam_call (Z : Fam nB newId nInit iB initId nTail tail) (up : Above tail bm) {rest : List Value} {kw : List (Str × Value)} {fI : Addr}
    (cl : h.get? C = some (excClassObj nm q C N bs bm hdct sn sub ab col dd k0 k1 k2 k3 k5 newId))
    (hi : W.Looks (model prog w) h (typeLookup (.ref C) "__init__") (some (.ref fI))) (hb : ∀ self, W.Looks (model prog w) h (bindSpecial (.ref fI) self) (.ref fI, [self])) (sz : rest.length ≤ sizeLine)
    (go : codeAny (model prog w) (A.under (.builtin "type.__call__" ⟨.ref C :: rest, kw⟩)) (.call (.ref fI) ⟨.ref (h.objs.size + 1) :: rest, kw⟩) (W.InitBack (h.objs.size + 1) R)
      ⟨(h.push (W.kdv_tup rest)).push (exNew C h.objs.size), g, d, t, os⟩) :
    codeAny (model prog w) A (.call (.ref C) ⟨rest, kw⟩) R ⟨h, g, d, t, os⟩ := by
  have f1 := tc_lookup
  have f2 := tc_bind (.ref C)
  have f3 := tc_sub
  have ty : (⟨h, g, d, t, os⟩ : Shared).TypeIs (.ref C) "type" := ⟨_, cl, rfl⟩
  have k : ∀ b o, h.get? b = some o → ((h.push (W.kdv_tup rest)).push (exNew C h.objs.size)).get? b = some o := fun b o e => Heap.get?_push_of_some _ (Heap.get?_push_of_some _ e)
  have cl2 := k _ _ cl
  have there : ((h.push (W.kdv_tup rest)).push (exNew C h.objs.size)).get? (h.objs.size + 1) = some (exNew C h.objs.size) := by heap_get
  have isC : (Value.ref C :: bm).contains (.ref C) = true := by simp
  have i1 := hi.keeps k
  have b1 := (hb (.ref (h.objs.size + 1))).keeps k
  refine codeAny_of_tree ?_
  show wpAny _ _ (callAny (.ref C) _) _ _ _
  repeat (any_goals (first | assumption | with_reducible refine wpAny_loadPart_at cl ?_ | wp_step))
  refine ⟨rfl, ?_⟩
  refine codeAny_call_builtin_at (Code.quiet_builtin _ (by decide +kernel)) entry_typeCall ?_
  have chk : ∀ {Q : Unit → Shared → Prop} {A' : Around} {E' : Value → Shared → Prop}, Q () ⟨h, g, d, t, os⟩ → wpAny (model prog w) A' (checkBuiltinCall "type.__call__" ⟨.ref C :: rest, kw⟩) Q E' ⟨h, g, d, t, os⟩ := by
    intro Q A' E' go
    simp only [checkBuiltinCall, tc_kind, tc_split]
    repeat (any_goals (first | assumption | with_reducible refine wpAny_loadPart_at cl ?_ | with_reducible refine wpAny_onRaise ?_ | with_reducible refine wpAny_map ?_ | wp_step))
  refine chk ?_
  repeat (first | with_reducible refine wpAny_loadPart_at cl ?_ | with_reducible refine wpAny_madeBy_exc cl ?_ | wp_step)
  refine codeAny_call_builtin_code (Code.quiet_builtin _ Z.F.quiet) (fam_check_new Z up cl ?_)
  refine fam_new Z up cl sz ?_
  show wpAny _ _ _ _ _ ⟨(h.push (W.kdv_tup rest)).push (exNew C h.objs.size), g, d, t, os⟩
  unfold isInstance
  repeat (first | with_reducible refine wpAny_loadPart_at there ?_ | (with_reducible refine wpAny_isSubtype_exc cl2 ?_; rw [isC]) | wp_step)
  show wpAny _ _ (typeLookup (.ref C) _) _ _ _
  refine i1.at ?_
  refine wpAny_holding (wpAny_bind (b1.at ?_))
  refine wpAny_bind (wpAny_call (codeAny_mono go fun r s' z => ?_))
  match r, z with
  | .error e, z => exact z
  | .ok (.ret v), z =>
    obtain ⟨rfl, z⟩ := z
    exact wpAny_pure (wpAny_pure z)
end
end Vk
namespace Vk
open PySem Builtin Builtin.ObjectAttr
section
variable {prog : Program} {w : World} {A : Around} {E : Value → Shared → Prop} {R : Result → Shared → Prop} {hp : Heap} {g : Array GenState} {d : Drawn} {t : Nat} {os : OsState}
variable {nB newId nInit iB initId : String} {nTail tail : List Value}
theorem fam_passes (Z : Fam nB newId nInit iB initId nTail tail) (self : Value) : ∀ {l : List Value}, Above tail l → refuseLoop self "__setattr__" l = pure ()
  | [], h => by
    rw [show ([] : List Value) = tail from h]
    exact Z.passes self
  | .ref c :: r, h => (refuseLoop_ref ..).trans (fam_passes Z self (l := r) h)
  | .none :: r, h => by
    rw [show (Value.none :: r) = tail from h]
    exact Z.passes self
  | .ellipsis :: r, h => by
    rw [show (Value.ellipsis :: r) = tail from h]
    exact Z.passes self
  | .notImplemented :: r, h => by
    rw [show (Value.notImplemented :: r) = tail from h]
    exact Z.passes self
  | .bool b :: r, h => by
    rw [show (Value.bool b :: r) = tail from h]
    exact Z.passes self
  | .int i t :: r, h => by
    rw [show (Value.int i t :: r) = tail from h]
    exact Z.passes self
  | .float i t :: r, h => by
    rw [show (Value.float i t :: r) = tail from h]
    exact Z.passes self
  | .str i t :: r, h => by
    rw [show (Value.str i t :: r) = tail from h]
    exact Z.passes self
  | .bytes i t :: r, h => by
    rw [show (Value.bytes i t :: r) = tail from h]
    exact Z.passes self
  | .type i :: r, h => by
    rw [show (Value.type i :: r) = tail from h]
    exact Z.passes self
  | .builtin i :: r, h => by
    rw [show (Value.builtin i :: r) = tail from h]
    exact Z.passes self
/-- x.name = v, x an exception without a dict -/
theorem fam_store (Z : Fam nB newId nInit iB initId nTail tail) {K : W.Frag} {name : Str} {tk : Tok} {v : Value} {x C tp : Addr} {cd : ClassData} {bm : List Value} (X : K.In hp) (hx : hp.get? x = some (exNew C tp))
    (hcd : W.clsIn K C = some cd) (hm : cd.mro = .ref C :: bm) (up : Above tail bm) (hh : cd.hasDict = true) (ha : W.findIn K (.ref C) name = some none)
    (go : ∀ h' tk' dx, (∀ b o, b ≠ x → hp.get? b = some o → h'.get? b = some o) → hp.objs.size ≤ dx → dx ≠ x → h'.get? x = some { (exNew C tp) with dict := some dx } →
      h'.Ns1 dx (fun y => if y = name then some v else none) → R (.ok (.ret .none)) ⟨h', g, d, tk', os⟩) :
    codeAny (model prog w) A (.call (.builtin "object.__setattr__") ⟨[.ref x, .str name tk, v], []⟩) R ⟨hp, g, d, t, os⟩ := by
  have up' : Above tail (.ref C :: bm) := up
  have I : W.InstAt hp x (exNew C tp) C none := ⟨hx, rfl, rfl, trivial⟩
  have SO := F.store_object
  have isO : cd.mro.contains (.type "object") = true := by
    rw [hm, above_has _ up']
    exact Z.hasO
  have far : x ≠ hp.objs.size := Nat.ne_of_lt (Heap.lt_size hx)
  have inst : W.Looks (model prog w) hp (isInstance (.ref x) (.type "object")) true := I.type.andThen (W.looks_mroIn X (by
    unfold W.mroIn
    rw [hcd, Option.bind_some, if_neg (by rw [hm]; exact Bool.false_ne_true), isO]))
  refine codeAny_call_builtin SO.slot.plain SO.entry (@W.check_slot (model prog w) _ _ ⟨hp, g, d, t, os⟩ "object.__setattr__" "object" "__setattr__" (.ref x) [.str name tk, v] [] _ SO.kind SO.split inst (SO.args (.ref x) (.str name tk) v) ?_)
  have lm : W.Looks (model prog w) hp (mroOf (.ref C)) cd.mro := (W.looks_clsIn X hcd).andThen .now
  have lt : W.Looks (model prog w) hp (storeTaker? none) none := .now
  have lc : W.Looks (model prog w) hp (classData C) cd := W.looks_clsIn X hcd
  rw [W.osa_eq, refuse_eq]
  refine wpAny_bind (wpAny_bind (I.type.at (wpAny_bind (lm.at ?_))))
  rw [hm, fam_passes Z _ up']
  refine wpAny_pure (wpAny_bind (I.type.at (wpAny_bind ((W.looks_findIn X ha).at (wpAny_bind (lt.at ?_))))))
  show wpAny _ _ (storeInOwnDict (.ref x) (.ref C) (.str name tk) name v false) _ _ _
  obtain ⟨nm, bs, mro, ns, qn, hd, sn, sb, ab, col, del⟩ := cd
  dsimp only at hh
  subst hh
  unfold storeInOwnDict ownDictForStores
  repeat (first
    | with_reducible refine HandSPX.store_in_new ?_ ?_
    | with_reducible refine wpAny_loadPart_at hx ?_
    | with_reducible refine lc.at ?_
    | wp_step)
  · exact ⟨_, #[], _, (Heap.get?_update_ne _ _ _ _ far.symm).trans (Heap.get?_push_at rfl rfl), rfl, fun e he => absurd he (by simp), fun _ => rfl⟩
  · intro h' tk' hn' hs
    have hx1 : (hp.push { cls := .type "dict", data := .dict #[] }).get? x = some (exNew C tp) := Heap.get?_push_of_some _ hx
    refine go h' tk' hp.objs.size (fun b o nb ho => ?_) (Nat.le_refl _) far.symm ?_ hn'
    · exact (hs.2 b (Nat.ne_of_lt (Heap.lt_size ho))).trans ((Heap.get?_update_ne _ _ _ _ nb).trans (Heap.get?_push_of_some _ ho))
    · exact (hs.2 x far).trans (Heap.get?_update_self _ hx1 rfl)
end
end Vk
namespace Vk
open PySem L2
/-- what the written part says of an own exception class at C, made by newId -/
structure XC (K : PySem.W.Frag) (C : Addr) (newId : String) (tail : List Value) : Prop where
  cls : ∃ nm q N bs bm sn sub ab col dd k0 k1 k2 k3 k5, K.lookup C = some (excClassObj nm q C N bs bm true sn sub ab col dd k0 k1 k2 k3 k5 newId) ∧ Above tail bm
  sa : PySem.W.findIn K (.ref C) "__setattr__" = some (some (.builtin "object.__setattr__"))
  exC : PySem.W.subIn K (.ref C) (.type "BaseException") = some true
  tyC : PySem.W.typeIn K (.ref C) = some (.type "type")
  kC : PySem.W.keepIn K (.ref C) = true
  ga : PySem.W.findIn K (.ref C) "__getattribute__" = some (some (.builtin "BaseException.__getattribute__"))
  gg : PySem.W.findIn K (.ref C) "__getattr__" = some none
  hd : PySem.W.hasDictIn K C = true
  ca : PySem.W.findIn K (.ref C) "__class__" = some (some (.builtin "object.__class__"))
  mo : PySem.W.mroIn K C (.type "object") = some true
/-- __init__(self, v) of such a class: self.f = v -/
def spXInit (C : Addr) (f : Str) : Sp := fun vs H Q _ => ∃ (e : Addr) (v : V), vs = [.ref e, v] ∧ H e = some (exo e C none) ∧ ∀ dx, H dx = none → dx ≠ e → Q .non (upd (upd H dx (exd dx [(f, v)])) e (exo e C (some dx)))
/-- an exception of the class at C stands at e, with the field f -/
def XAt (H : Hp) (e C dx : Addr) (f : Str) (v : V) : Prop := dx ≠ e ∧ H e = some (exo e C (some dx)) ∧ H dx = some (exd dx [(f, v)])
section
variable {X : Cx} {nB newId nInit iB initId : String} {nTail tail : List Value}
/-- Base.__init__(self, ..), Base an own class that has no __init__ of its own -/
def tBInit (K : PySem.W.Frag) (newId : String) (tail : List Value) (ta : TA) : TE := fun σ H Q => ta σ H fun vs H1 => ∃ (a C : Addr) (ws : List V), vs = .ref a :: ws ∧ ws.length ≤ 1000 ∧ XC K C newId tail ∧ H1 a = some (exo a C none) ∧ Q .non H1
theorem pe_binit (Z : Fam nB newId nInit iB initId nTail tail) {T : Addr} {x : Str} {e : Expr} {es : List Expr} {ta : TA} {p1 p2 pos : Pos} {pl : Sem Bool} (hg : Gl X x) (hm : X.mg x = some (.ref T))
    (sg : PySem.W.specialIn X.K (.ref T) "__getattribute__" = some (some (.builtin "type.__getattribute__"))) (ty : PySem.W.typeIn X.K (.ref T) = some (.type "type")) (rd : PySem.W.readsIn X.K T (.type "type") = true)
    (fi : PySem.W.findCls X.K (.ref T) (.type "type") "__init__" = some (.val (.builtin initId))) (hh : PySem.W.handedIn (.builtin initId) = true) (ha : PA X (e :: es) ta) (hdb : (x == ("__debug__" : Str)) = false := by decide)
    (hc : eval (.Call (.Attribute (.Name x p1) "__init__" p2) (e :: es) [] pos) X.env = (do
      let ov ← eval (.Name x p1) X.env
      standAt p2.atName
      let (f, first) ← holding [ov] (getMethod ov "__init__" pl)
      callWith pos f first (backTo pos (starEach (e :: es) X.env)) (backToKw pos (keywordEach [] X.env))) := by rfl)
    (he : starEach (e :: es) X.env = (false, eval e X.env) :: starEach es X.env := by rfl) (hpl : (backTo pos (starEach es X.env)).any (·.1) = false := by rfl) :
    PE X (.Call (.Attribute (.Name x p1) "__init__" p2) (e :: es) [] pos) (tBInit X.K newId tail ta) := by
  refine ⟨fun pins s σ H Q I h => ?_⟩
  refine PySem.W.methodCall_KW (ld_glob I hg hm ?_ hdb) hc
  obtain ⟨m, fr⟩ := I.fr
  refine PySem.W.method_of_cls fr I.ok.mod.kin sg (PySem.W.cls_val fr I.ok.mod.kin ty rd fi hh ?_)
  show wpAny _ _ (callWith pos (Value.builtin initId) [] (backTo pos (starEach (e :: es) X.env)) []) _ _ _
  refine PyProof.Rows.callWith_method1 (thn (ha.run pos pins _ σ H _ (I.tok _) h) fun us s1 ⟨vs, H1, I1, r1, a, C, ws, ev, hl, T, ea, q⟩ => ?_) he hpl
  subst ev
  cases r1 with
  | @cons _ u0 _ ur ra rw' =>
    obtain rfl : u0 = Value.ref a := ra
    have sz : ur.length ≤ sizeLine := by
      rw [← Paired.length rw']
      exact Nat.le_trans hl (by decide)
    obtain ⟨nm, q', N, bs, bm, sn, sub, ab, col, dd, k0, k1, k2, k3, k5, cl, up⟩ := T.cls
    obtain ⟨t1, ho⟩ := exo_at I1.hok ea
    obtain ⟨hp, g, d, t, os⟩ := s1
    refine wpAny_call (fam_init Z up (I1.kIn _ _ cl) ho sz fun h' t2 k hx => ?_)
    have J := I1.write (t' := t) (x := a) (e := a) (o := exo a C none) (by rw [ea]; exact True.intro) (.inl rfl) k ⟨_, hx⟩ (exo_ok hx)
    have eu : upd H1 a (exo a C none) = H1 := by
      funext b
      by_cases hb : b = a
      · rw [hb, upd_same, ea]
      · rw [upd_ne hb]
    rw [eu] at J
    exact ⟨.non, H1, J, rfl, q⟩
/-- self.f = e, the first field -/
def tXSt (K : PySem.W.Frag) (newId : String) (tail : List Value) (f : Str) (to te : TE) : TS := fun D σ H => te σ H fun y H1 => to σ H1 fun x H2 => ∃ a C : Addr, x = .ref a ∧ XC K C newId tail ∧ PySem.W.findIn K (.ref C) f = some none ∧
  H2 a = some (exo a C none) ∧ ∀ dx, H2 dx = none → dx ≠ a → D.nx σ (upd (upd H2 dx (exd dx [(f, y)])) a (exo a C (some dx)))
theorem ps_xst (Z : Fam nB newId nInit iB initId nTail tail) {o e : Expr} {f : Str} {to te : TE} {pos p' : Pos} (ho : PE X o to) (he : PE X e te) (hs : swapsWith e (some (.Attribute o f p')) pos.line X.env = pure false := by rfl) :
    PS X (.Assign [.Attribute o f p'] e pos) (tXSt X.K newId tail f to te) := by
  refine ⟨fun pins s σ H D I h => ?_⟩
  refine plainObj_wpAny_Assign_Attribute (thn (he.run pins s σ H _ I h) fun v s1 ⟨y, H1, I1, r1, q1⟩ => thn (ho.run pins s1 σ H1 _ I1 q1) fun u s2 ⟨x, H2, I2, r2, a, C, ex, T, hno, ea, q⟩ => ?_) hs
  subst ex
  obtain rfl : u = Value.ref a := r2
  obtain ⟨nm, q', N, bs, bm, sn, sub, ab, col, dd, k0, k1, k2, k3, k5, cl, up⟩ := T.cls
  have hcl : PySem.W.clsIn X.K C = some { name := nm, bases := bs, mro := .ref C :: bm, ns := N, qualname := q', hasDict := true, slotNames := sn, subclasses := sub, abstract := ab, collection := col, hasDel := false } := by
    unfold PySem.W.clsIn
    rw [cl] <;> rfl
  obtain ⟨t1, hx⟩ := exo_at I2.hok ea
  obtain ⟨hp, g, d, t, os⟩ := s2
  refine PySem.W.set_plain I2.kIn (ox := exNew C t1) (od := none) ⟨hx, rfl, rfl, trivial⟩ T.sa ?_
  refine fam_store Z I2.kIn hx hcl rfl up rfl hno (fun h' tk' dx k dn dne hx' hn => ?_)
  have nd : H2 dx = none := I2.hok.fresh dn
  have nx : ∀ {b : Addr} {ob : Obj}, hp.get? b = some ob → b ≠ dx := fun {b ob} z => Nat.ne_of_lt (Nat.lt_of_lt_of_le (Heap.lt_size z) dn)
  have na : ∀ {b : Addr}, H2 b = none → b ≠ a := fun {b} n z => by
    rw [z, ea] at n
    cases n
  have U : Un X.fs [] H2 (upd (upd H2 dx (exd dx [(f, y)])) a (exo a C (some dx))) hp h' := {
    keep := fun b ob z n _ _ => k b ob (na n) z
    slot := fun b ob z n _ _ => ⟨ob.slots, k b ob (na n) z⟩
    free := fun b ob z n _ => by
      rw [upd_ne (na n), upd_ne (nx z)]
      exact n
    there := fun b ob z _ => by
      by_cases hb : b = a
      · exact ⟨_, by rw [hb]; exact hx'⟩
      · exact ⟨ob, k b ob hb z⟩
    tups := fun b xs z => by
      rw [upd_ne (at_ne ea z exo_tup), upd_ne (ne_of_none z nd)]
      exact z
    frzs := fun b ob v' z => by
      rw [upd_ne (at_ne ea z exo_frz), upd_ne (ne_of_none z nd)]
      exact z
    tbls := fun b ps z => ⟨#[], by
      rw [upd_ne (at_ne ea z exo_tbl), upd_ne (ne_of_none z nd), z]
      simp⟩ }
  refine ⟨σ, _, I2.un (t' := tk') U fun b ob z => ?_, q dx nd dne⟩
  by_cases hb : b = a
  · subst hb
    rw [upd_same] at z
    cases z
    exact exo_ok hx'
  · rw [upd_ne hb] at z
    by_cases hd : b = dx
    · subst hd
      rw [upd_same] at z
      cases z
      exact exd_ok hn (relO_put (fs := []) r1 fun _ => True.intro)
    · rw [upd_ne hd] at z
      refine (I2.hok b ob z).stay (fun c v' hc e => k c v' ?_ e) (fun c hc => ?_) (fun c xs hc => ?_)
      · rcases hc with hc | hc
        · rw [hc]
          exact hb
        · exact at_ne ea hc exo_own
      · rw [upd_ne (at_ne ea hc exo_own), upd_ne (ne_of_none hc nd)]
        exact hc
      · rw [upd_ne (at_ne ea hc exo_tup), upd_ne (ne_of_none hc nd)]
        exact hc
/-- C(..), an own exception class with its own __init__ at fI: a new exception with a field -/
theorem run_x (Z : Fam nB newId nInit iB initId nTail tail) {C fI : Addr} {fd : FuncData} {k : Nat} {f : Str} (T : XC X.K C newId tail) (iC : PySem.W.findIn X.K (.ref C) "__init__" = some (some (.ref fI))) (tI : PySem.W.typeIn X.K (.ref fI) = some (.type "function"))
    (F1 : FnOk X.prog X.w X.K X.mg X.base CX0 k fI fd ["self", f] (spXInit C f)) (hr : Room (k + 1) X.A) {rest : List Value} {kw : List (Str × Value)} {u : Value} {v : V} (sz : rest.length ≤ sizeLine)
    (hb : ∀ (s : Shared) (a : Value), X.K.In s.heap → BindsTo s fd ⟨a :: rest, kw⟩ ((["self", f] : List Str).zip [a, u]))
    {pins : List (Addr × Obj)} {σ : St} {H : Hp} {s : Shared} {Q : VK} (I : Inv X pins σ H s) (r : RelV v u)
    (h : ∀ (e dx : Addr) (H2 : Hp), Same H H2 → H e = none → H dx = none → XAt H2 e C dx f v → Q (.ref e) H2) : wpAny (model X.prog X.w) X.A (call (.ref C) rest kw) (EP X pins σ Q) X.xe s := by
  obtain ⟨nm, q', N, bs, bm, sn, sub, ab, col, dd, k0, k1, k2, k3, k5, cl, up⟩ := T.cls
  obtain ⟨hp, g, d, t, os⟩ := s
  have big : hp.objs.size ≤ hp.objs.size + 1 := Nat.le_succ _
  have n0 : H (hp.objs.size + 1) = none := I.hok.fresh big
  have kk : ∀ b o, hp.get? b = some o → ((hp.push (PySem.W.kdv_tup rest)).push (exNew C hp.objs.size)).get? b = some o := fun b o e => Heap.get?_push_of_some _ (Heap.get?_push_of_some _ e)
  have at0 : ((hp.push (PySem.W.kdv_tup rest)).push (exNew C hp.objs.size)).get? (hp.objs.size + 1) = some (exNew C hp.objs.size) := by heap_get
  have I2 : Inv X pins σ (upd H (hp.objs.size + 1) (exo (hp.objs.size + 1) C none)) ⟨(hp.push (PySem.W.kdv_tup rest)).push (exNew C hp.objs.size), g, d, t, os⟩ :=
    I.laid (t' := t) (a := hp.objs.size + 1) (o := exo (hp.objs.size + 1) C none) (h' := (hp.push (PySem.W.kdv_tup rest)).push (exNew C hp.objs.size)) kk big (exo_ok at0)
  have r2 : Vals [V.ref (hp.objs.size + 1), v] [Value.ref (hp.objs.size + 1), u] := .cons rfl (.cons r .nil)
  have want : spXInit C f [V.ref (hp.objs.size + 1), v] (upd H (hp.objs.size + 1) (exo (hp.objs.size + 1) C none)) (fun x H2 => x = .non ∧ Q (.ref (hp.objs.size + 1)) H2) (fun _ _ _ => False) := by
    refine ⟨_, _, rfl, upd_same, fun dx ndx ne => ?_⟩
    have nd0 : H dx = none := by
      rw [← ndx, upd_ne ne]
    refine ⟨rfl, h _ dx _ (fun b o e => ?_) n0 nd0 ⟨ne, upd_same, ?_⟩⟩
    · rw [upd_ne (ne_of_none e n0), upd_ne (ne_of_none e nd0), upd_ne (ne_of_none e n0)]
      exact e
    · rw [upd_ne ne, upd_same]
  refine wpAny_call (fam_call Z up (I.kIn _ _ cl) (PySem.W.looks_findIn I.kIn iC) (fun self => PySem.W.bind_fn I.kIn self tI) sz
    (codeAny_mono (F1.run _ X.stack _ _ ⟨Value.ref (hp.objs.size + 1) :: rest, kw⟩ [Value.ref (hp.objs.size + 1), u] _ _ (fun _ _ _ => False) (hr.make C rest kw) (I2.env0.make C rest kw) (hb _ _ I2.kIn) r2 want) fun r s' hq => ?_))
  cases r with
  | error er => exact hq.elim
  | ok fl =>
    cases fl with
    | ret u2 =>
      obtain ⟨x, H', I3, rx, ev, q3⟩ := I2.after hq
      subst ev
      exact ⟨rx, ⟨.ref (hp.objs.size + 1), H', I3, rfl, q3⟩⟩
    | next => exact hq.elim
    | brk => exact hq.elim
    | cont => exact hq.elim
/-- the reading of C(e) and C(f = e) -/
def tXMk (C : Addr) (f : Str) (te : TE) : TE := fun σ H Q => te σ H fun v H1 => ∀ (e dx : Addr) (H2 : Hp), Same H1 H2 → H1 e = none → H1 dx = none → XAt H2 e C dx f v → Q (.ref e) H2
theorem pe_xmk (Z : Fam nB newId nInit iB initId nTail tail) {C fI : Addr} {fd : FuncData} {k : Nat} {f x : Str} {e : Expr} {te : TE} {p pos : Pos} (T : XC X.K C newId tail) (iC : PySem.W.findIn X.K (.ref C) "__init__" = some (some (.ref fI)))
    (tI : PySem.W.typeIn X.K (.ref fI) = some (.type "function")) (F1 : FnOk X.prog X.w X.K X.mg X.base CX0 k fI fd ["self", f] (spXInit C f)) (hr : Room (k + 1) X.A) (hb : Binds X.K fd ["self", f] []) (hg : Gl X x) (hm : X.mg x = some (.ref C))
    (he : PE X e te) (hdb : (x == ("__debug__" : Str)) = false := by decide) (hs : starEach [e] X.env = (false, eval e X.env) :: starEach [] X.env := by rfl) :
    PE X (.Call (.Name x p) [e] [] pos) (tXMk C f te) := by
  refine ⟨fun pins s σ H Q I h => ?_⟩
  refine wpAny_Call_Name_kw (ld_glob I hg hm ?_ hdb)
  refine PySem.W.callWith_K (h₀ := X.base) I.ok.mod.kin T.kC ?_ hs (by rfl)
  rw [hs]
  show wpAny _ _ (spliced ((false, eval e X.env) :: backTo pos (starEach [] X.env))) _ _ s
  refine Calls.spliced_cons (thn (he.run pins s σ H _ I h) fun u s1 ⟨v, H1, I1, r1, q1⟩ => ?_)
  refine Calls.spliced_nil ⟨I1.kIn, ?_⟩
  exact run_x Z T iC tI F1 hr (rest := [u]) (kw := []) (by show 1 ≤ sizeLine; decide) (fun s a hK => by
    have z := hb s [a, u] hK rfl
    exact z) I1 r1 q1
theorem pe_xmkN (Z : Fam nB newId nInit iB initId nTail tail) {C fI : Addr} {fd : FuncData} {k : Nat} {f x : Str} {e : Expr} {te : TE} {p pos kpos : Pos} (T : XC X.K C newId tail) (iC : PySem.W.findIn X.K (.ref C) "__init__" = some (some (.ref fI)))
    (tI : PySem.W.typeIn X.K (.ref fI) = some (.type "function")) (F1 : FnOk X.prog X.w X.K X.mg X.base CX0 k fI fd ["self", f] (spXInit C f)) (hr : Room (k + 1) X.A)
    (hb : ∀ (s : Shared) (a u : Value), X.K.In s.heap → BindsTo s fd ⟨[a], [(f, u)]⟩ ((["self", f] : List Str).zip [a, u])) (hg : Gl X x) (hm : X.mg x = some (.ref C))
    (he : PE X e te) (hall : (backToKw pos (keywordEach [⟨some f, e, kpos⟩] X.env)).all (·.1.isSome) = true := by rfl) (hks : (backToKw pos (keywordEach [⟨some f, e, kpos⟩] X.env)).filterMap (·.1) = [f] := by rfl) (hdb : (x == ("__debug__" : Str)) = false := by decide)
    (hpl : ((backTo pos (starEach [] X.env)).any (·.1) || (backToKw pos (keywordEach [⟨some f, e, kpos⟩] X.env)).any (·.1.isNone)) = false := by rfl) :
    PE X (.Call (.Name x p) [] [⟨some f, e, kpos⟩] pos) (tXMk C f te) := by
  refine ⟨fun pins s σ H Q I h => ?_⟩
  refine wpAny_Call_Name_kw (ld_glob I hg hm ?_ hdb)
  refine PySem.W.callWith_KW0 (h₀ := X.base) I.ok.mod.kin T.kC hall ?_ hpl
  refine thn ((pk_cons (nm := some f) (kpos := kpos) he pk_nil).run pos pins s σ H (fun zs H1 => match zs with
    | [v] => ∀ (e dx : Addr) (H2 : Hp), Same H1 H2 → H1 e = none → H1 dx = none → XAt H2 e C dx f v → Q (.ref e) H2
    | _ => False) I h) fun ws s2 ⟨zs, H2, I2, rz, q2⟩ => ⟨I2.kIn, ?_⟩
  rw [hks]
  match zs, rz, q2 with
  | [v], rz, q2 =>
    obtain ⟨u, rfl, rv⟩ := vals1 rz
    exact run_x Z T iC tI F1 hr (rest := []) (kw := [(f, u)]) (Nat.zero_le _) (fun s a hK => hb s a u hK) I2 rv q2
end
end Vk
namespace Vk
open PySem L2
/-- an exception object stands at a: without a dict, or with one -/
inductive XObj (H : Hp) (a C : Addr) : Prop where
  | bare (h : H a = some (ExO (.ref C) a)) : XObj H a C
  | full {dx : Addr} {fs : List (Str × V)} (h : H a = some (exo a C (some dx))) (hd : H dx = some (exd dx fs)) : XObj H a C
/-- the two facts of every class -/
structure XG (K : PySem.W.Frag) : Prop where
  cn : PySem.W.specialIn K (.builtin "object.__class__") "__get__" = some (some (.builtin "getset_descriptor.__get__"))
  ct : PySem.W.takesIn K (.builtin "object.__class__") = some true
section
variable {X : Cx} {pins : List (Addr × Obj)} {σ : St} {H : Hp} {s : Shared} {newId : String} {tail : List Value}
theorem exd_look {dx : Addr} {fs : List (Str × V)} (I : Inv X pins σ H s) (h : H dx = some (exd dx fs)) : ∃ od, s.heap.get? dx = some od ∧ ∀ f, ∃ m, PySem.W.lookIn f od = some m ∧ RelO (fs.lookup f) m := by
  obtain ⟨mA, hn, hr⟩ := exd_at I.hok h
  obtain ⟨od, ho, hl⟩ := lookIn_ns hn
  exact ⟨od, ho, fun f => ⟨mA f, hl f, hr f⟩⟩
theorem XObj.inst {a C : Addr} (I : Inv X pins σ H s) (h : XObj H a C) : ∃ ox od, PySem.W.InstAt s.heap a ox C od := by
  cases h with
  | bare h =>
    obtain ⟨⟨oe, vs, e, z, d, _⟩, _⟩ := I.hok _ _ h
    exact ⟨oe, none, e, z.1, by unfold PySem.W.notCls; rw [d] <;> rfl, by rw [z.2]; exact True.intro⟩
  | full h hd =>
    obtain ⟨t1, e⟩ := exo_at I.hok h
    obtain ⟨od, ho, _⟩ := exd_look I hd
    exact ⟨_, some od, e, rfl, rfl, ho⟩
theorem call_isX (G : XG X.K) : CallR X (.builtin "isinstance") (fun xs H Q => ∃ (a C : Addr) (nid : String) (tl : List Value) (c : V) (u : Value) (b : Bool), xs = [.ref a, c] ∧ XObj H a C ∧ XC X.K C nid tl ∧ ClsV c u ∧ PySem.W.kitOne X.K (.ref C) u = some b ∧ Q (.bl b) H) := by
  intro pins s σ H xs us Q I r h
  obtain ⟨a, C, nid, tl, c, u, b, rfl, xo, T, k, e, q⟩ := h
  obtain ⟨u1, u2, rfl, r1, r2⟩ := vals2 r
  have e2 := k.eq r2
  subst e2
  obtain rfl : u1 = Value.ref a := r1
  obtain ⟨ox, od, J⟩ := xo.inst I
  have cl : (PySem.W.clsIn X.K C).isSome = true := by
    obtain ⟨nm, q', N, bs, bm, sn, sub, ab, col, dd, k0, k1, k2, k3, k5, cl, up⟩ := T.cls
    unfold PySem.W.clsIn
    rw [cl] <;> rfl
  exact PySem.W.kia_one (PySem.W.kitx_exc (ox := ox) (od := od) cl T.ga T.gg T.exC T.ca G.cn G.ct T.mo) I.kIn J e (fun z => nomatch z) fun tk => ⟨.bl b, H, I.tok tk, rfl, q⟩
/-- e.f, the field of an exception -/
def tXGet (K : PySem.W.Frag) (te : TE) (f : Str) : TE := fun σ H Q => te σ H fun x H1 => ∃ (a C dx : Addr) (nid : String) (tl : List Value) (v : V), x = .ref a ∧ XAt H1 a C dx f v ∧ XC K C nid tl ∧ PySem.W.findIn K (.ref C) f = some none ∧ Q v H1
theorem pe_xget {e : Expr} {te : TE} {f : Str} {pos : Pos} (he : PE X e te) (hb : attributeBase e f X.env (eval e X.env) = eval e X.env := by rfl) : PE X (.Attribute e f pos) (tXGet X.K te f) := by
  refine ⟨fun pins s σ H Q I h => ?_⟩
  refine attr_of hb (thn (he.run pins s σ H _ I h) fun u s1 hh => ?_)
  obtain ⟨x, H1, I1, rx, a, C, dx, nid, tl, v, ex, ⟨_, h1, h2⟩, T, hno, q⟩ := hh
  subst ex
  obtain rfl : u = Value.ref a := rx
  obtain ⟨t1, ea⟩ := exo_at I1.hok h1
  obtain ⟨od, ho, lk⟩ := exd_look I1 h2
  obtain ⟨m, hm, rm⟩ := lk f
  have l : List.lookup f [(f, v)] = some v := by simp [List.lookup]
  rw [l] at rm
  obtain ⟨u, rfl, ru⟩ : ∃ u, m = some u ∧ RelV v u := by
    cases m with
    | none => exact rm.elim
    | some u => exact ⟨u, rfl, rm⟩
  have J : PySem.W.InstAt s1.heap a _ C (some od) := ⟨ea, rfl, rfl, ho⟩
  exact HandSPX.exc_get I1.kIn J T.ga T.gg T.exC (PySem.W.findObj_own T.hd hno rfl hm) (handed_of ru) ⟨v, H1, I1.tok _, ru, q⟩
/-- C(), an own exception class without __init__ -/
theorem pe_xbare {C : Addr} {bmB : List Value} {B nid initId : String} {x : Str} {p pos : Pos} (F : ExcBaseFacts B nid initId bmB) (q : PySem.W.excIn X.K C bmB nid = true) (gC : X.mg x = some (.ref C)) (kC : PySem.W.keepIn X.K (.ref C) = true) (hg : Gl X x)
    (hdb : (x == ("__debug__" : Str)) = false := by decide) : PE X (.Call (.Name x p) [] [] pos) (fun _ H Q => ∀ a, H a = none → Q (.ref a) (upd H a (ExO (.ref C) a))) := by
  refine ⟨fun pins s σ H Q I h => ?_⟩
  refine wpAny_Call_Name_kw (ld_glob I hg gC ?_ hdb)
  refine PySem.W.callWith_K0 I.kIn kC ?_
  show wpAny _ _ (call (.ref C) []) _ _ _
  obtain ⟨bm, N, nm, qn, bs, hdct, sn, sub, ab, col, dd, k0, k1, k2, k3, k5, mN, hC, hN, hni, T⟩ := exc_obj I.kIn q
  refine wpAny_call_exc_subT F T hC hN hni (fun h' a hm => ?_) (Nat.zero_le _)
  have hn : H a = none := I.hok.gone hm.new
  obtain ⟨t, ht, _, _⟩ := hm.there
  exact ⟨.ref a, upd H a (ExO (.ref C) a), I.laidN hm.keeps hm.new hn (exO_ok ht ⟨rfl, rfl⟩ rfl rfl rfl (show 4 < 6 by decide)), rfl, h a hn⟩
/-- what gives a new exception with a dict back makes an exception -/
theorem pmk_retX {e : Expr} {te : TE} (hx : X.ex = []) (he : PE X e te) :
    PMk X e (fun σ H Q => te σ H fun x H1 => ∃ (a C dx : Addr) (fs : List (Str × V)), x = .ref a ∧ H1 a = some (exo a C (some dx)) ∧ H1 dx = some (exd dx fs) ∧ dx ≠ a ∧ Fr0 X.H_0 a ∧ Raises X (.ref C) ∧ Q (.ref C) (some dx) (upd (delH H1 a) dx (.xd fs))) := by
  intro pins s σ H Q I h
  refine wpAny_mono (he.run pins s σ H _ I h) (fun u s1 hu => ?_) fun _ _ x => x
  obtain ⟨v, H1, I1, r1, a, C, dx, fs, rfl, ha, hd, ne, h0, hr, q⟩ := hu
  cases r1
  obtain ⟨t1, ho⟩ := exo_at I1.hok ha
  obtain ⟨G, gs, ga, J⟩ := I1.untrack ha h0 hx
  have hd' : delH H1 a dx = some (exd dx fs) := by
    rw [delH_ne ne]
    exact hd
  obtain ⟨mA, hns, rel⟩ := exd_at J.hok hd'
  have J2 := J.write (t' := s1.toks) (x := dx) (e := dx) (o := .xd fs) (by rw [hd']; exact True.intro) (.inl rfl) (fun b u _ e => e) (by obtain ⟨o, es, ep, e, _⟩ := hns; exact ⟨o, e⟩) ⟨mA, hns, rel⟩
  refine ⟨a, _, _, { s1 with heap := G }, upd (delH H1 a) dx (.xd fs), .ref C, some dx, rfl, J2, gs, ga, ho, ⟨rfl, rfl⟩, rfl, rfl, ?_, rfl, I1.bare, hr, q⟩
  rw [upd_ne ne.symm, delH_same]
end
end Vk
/-! a store; table_of, rows_of, is_change, is_possible -/
namespace Vm
open PySem L2
/-- what is no list stays -/
def NL (H H' : Hp) : Prop := ∀ b o, (∀ xs, o ≠ .lst xs) → H b = some o → H' b = some o
theorem NL.of_same {H H' : Hp} (k : Same H H') : NL H H' := fun b o _ e => k b o e
theorem But.nl {s l : Addr} {H H' : Hp} {ms : List Int} {z b : Int} (k : But s l H H') (hs : Src H s l ms z b) : NL H H' := fun c o n e => k _ _ (fun q => by
  rw [q, hs.hs] at e
  exact n _ (Option.some.inj e).symm) (fun q => by
  rw [q, hs.hl] at e
  exact n _ (Option.some.inj e).symm) e
/-- an own exception class with one field -/
structure XcT (K : PySem.W.Frag) (mg : Str → Option Value) (x : Str) (C fI : Addr) (nid : String) (tl : List Value) (f : Str) : Prop where
  xc : Vk.XC K C nid tl
  iC : PySem.W.findIn K (.ref C) "__init__" = some (some (.ref fI))
  tI : PySem.W.typeIn K (.ref fI) = some (.type "function")
  g : mg x = some (.ref C)
  no : PySem.W.findIn K (.ref C) f = some none
/-! the methods -/
end Vm
/-! is_possible -/
namespace Vm
open PySem L2
/-- data whose items are names and integers -/
theorem cells_of {K : PySem.W.Frag} {H : Hp} {n : Nat} : ∀ {xs : List V} {us : List Tr} {bs : List Addr}, DtAll K H xs us n bs → (∀ u ∈ us, isNm u = true ∨ isNum u = true) → ∃ r : Row, us = r.map Cell.t ∧ xs = r.map Cell.v
  | _, _, _, .nil, _ => ⟨[], rfl, rfl⟩
  | _, u :: us, _, .cons h t, al => by
    obtain ⟨r, e1, e2⟩ := cells_of t fun u m => al u (List.mem_cons_of_mem _ m)
    rw [e1, e2]
    rcases al u List.mem_cons_self with a | a
    · cases h with
      | str _ _ => exact ⟨.s _ :: r, rfl, rfl⟩
      | _ => exact nomatch a
    · cases h with
      | int _ => exact ⟨.i _ :: r, rfl, rfl⟩
      | _ => exact nomatch a
theorem isRow_row {ti : Ti} {r : Row} (h : isRow ti.ss.length ti.zs.length (rowT r) = true) : Row.ok ti r := by
  have h' : (decide ((r.map Cell.t).length = ti.ss.length + ti.zs.length) && (((r.map Cell.t).take ti.ss.length).all isNm && ((r.map Cell.t).drop ti.ss.length).all isNum)) = true := h
  rw [Bool.and_eq_true, Bool.and_eq_true, decide_eq_true_eq, List.length_map, List.all_eq_true, List.all_eq_true] at h'
  obtain ⟨h1, h2, h3⟩ := h'
  refine ⟨h1, fun i c e => ?_⟩
  have em : (r.map Cell.t)[i]? = some c.t := by
    rw [List.getElem?_map, e]
    rfl
  by_cases lt : i < ti.ss.length
  · rw [decide_eq_true lt]
    have m : c.t ∈ (r.map Cell.t).take ti.ss.length := List.mem_of_getElem? (i := i) (by rw [List.getElem?_take_of_lt lt]; exact em)
    have := h2 _ m
    cases c with
    | s x => exact this
    | i n => exact nomatch this
  · rw [decide_eq_false lt]
    have m : c.t ∈ (r.map Cell.t).drop ti.ss.length := List.mem_of_getElem? (i := i - ti.ss.length) (by rw [List.getElem?_drop, show ti.ss.length + (i - ti.ss.length) = i by omega]; exact em)
    have := h3 _ m
    cases c with
    | s x => exact nomatch this
    | i n => rfl
/-- data that is a row of the table -/
theorem Dt.row {K : PySem.W.Frag} {H : Hp} {v : V} {t : Tr} {n : Nat} {bs : List Addr} {ti : Ti} (g : ti.ok) (d : Dt K H v t n bs) (h : isRow ti.ss.length ti.zs.length t = true) : ∃ r, RwAt H v r ∧ Row.ok ti r ∧ t = rowT r := by
  have tt : isTup t = true := by cases t <;> first | rfl | exact nomatch h
  obtain ⟨a, xs, ts, m, cs, rfl, rfl, _, te, ds, _⟩ := d.tupD tt
  have h' : (decide (ts.length = ti.ss.length + ti.zs.length) && ((ts.take ti.ss.length).all isNm && (ts.drop ti.ss.length).all isNum)) = true := h
  rw [Bool.and_eq_true, Bool.and_eq_true, decide_eq_true_eq, List.all_eq_true, List.all_eq_true] at h'
  obtain ⟨h1, h2, h3⟩ := h'
  obtain ⟨r, e1, e2⟩ := cells_of ds fun u hu => by
    rw [← List.take_append_drop ti.ss.length ts] at hu
    rcases List.mem_append.mp hu with m | m
    · exact .inl (h2 u m)
    · exact .inr (h3 u m)
  subst e1
  have ok : Row.ok ti r := isRow_row h
  refine ⟨r, ?_, ok, rfl⟩
  subst e2
  rcases te with ⟨e, _⟩ | ⟨o, e, hd⟩
  · have := ok.len
    have l0 := congrArg List.length e
    rw [List.length_map] at l0
    have := g.ne
    rw [List.length_append] at this
    have l1 : ([] : List V).length = 0 := rfl
    omega
  · exact ⟨a, o, rfl, e, hd⟩
end Vm
/-! do -/
namespace Vm
open PySem L2 StX
/-! data of tuples, texts, integers alone: it stays where tuples stay -/
mutual
def pureT : Tr → Bool
  | .lst _ => false
  | .dct _ _ => false
  | .tup ts => pureTs ts
  | _ => true
def pureTs : List Tr → Bool
  | [] => true
  | t :: r => pureT t && pureTs r
end
mutual
theorem Dt.fz {K : PySem.W.Frag} {H H' : Hp} (k : Fz H H') : ∀ {v : V} {t : Tr} {n : Nat} {bs : List Addr}, Dt K H v t n bs → pureT t = true → Dt K H' v t n bs
  | _, _, _, _, .non, _ => .non
  | _, _, _, _, .bl b, _ => .bl b
  | _, _, _, _, .int h, _ => .int h
  | _, _, _, _, .str h hz, _ => .str h hz
  | _, _, _, _, .lst h r na, p => nomatch p
  | _, _, _, _, .emp h, _ => .emp h
  | _, _, _, _, .tup h nd r na, p => .tup (k _ _ _ h) nd (DtAll.fz k r p) na
  | _, _, _, _, .dct h kf r na, p => nomatch p
theorem DtAll.fz {K : PySem.W.Frag} {H H' : Hp} (k : Fz H H') : ∀ {v : List V} {t : List Tr} {n : Nat} {bs : List Addr}, DtAll K H v t n bs → pureTs t = true → DtAll K H' v t n bs
  | _, _, _, _, .nil, _ => .nil
  | _, t :: ts, _, _, .cons h r, p => by
    have p' : (pureT t && pureTs ts) = true := p
    rw [Bool.and_eq_true] at p'
    exact .cons (h.fz k p'.1) (r.fz k p'.2)
end
/-- a method's call, its promise by position -/
def tMethR (C : Addr) (m : Str) (sp : Sp) (E : XK) (ta : TE) (t : TA) : TE := fun σ H Q => ta σ H fun x H1 => ∃ (a dx : Addr) (fs : List (Str × V)), x = .ref a ∧ H1 a = some (.ins C dx fs) ∧ fs.lookup m = none ∧ t σ H1 fun vs H2 => sp (.ref a :: vs) H2 Q E
section
variable {X : Cx} {CX : CXT} {k : Nat} {f C : Addr} {sp : Sp} {E : XK} {m : Str} {pos apos : Pos} {o e : Expr} {es : List Expr} {ta : TE} {t : TA}
theorem pe_methR {pl : Sem Bool} (he : PE X o ta) (c : Cls X.K C) (hm : Meth X.K C m f) (F : FnR X.prog X.w X.K X.mg X.base CX k f sp) (hr : Room k X.A) (hx : Passes CX X E) (ha : PA X (e :: es) t)
    (hst : starEach (e :: es) X.env = (false, eval e X.env) :: starEach es X.env := by rfl) (hpl : (backTo pos (starEach es X.env)).any (·.1) = false := by rfl)
    (ht : eval (.Call (.Attribute o m apos) (e :: es) [] pos) X.env = (do
      let ov ← eval o X.env
      standAt apos.atName
      let (f, first) ← holding [ov] (getMethod ov m pl)
      callWith pos f first (backTo pos (starEach (e :: es) X.env)) (backToKw pos (keywordEach [] X.env))) := by rfl) :
    PE X (.Call (.Attribute o m apos) (e :: es) [] pos) (tMethR C m sp E ta t) := by
  refine ⟨fun pins s σ H Q I h => ?_⟩
  refine PySem.W.methodCall_KW (pl := pl) (thn (he.run pins s σ H _ I h) fun u s1 ⟨x, H1, I1, rx, a, dx, fs, ex, ea, l, q⟩ => ?_) ht
  subst ex
  obtain rfl : u = Value.ref a := rx
  refine getmeth_ok I1 ea c hm l ?_
  refine PySem.W.callWith_K (first := [.ref a]) (h₀ := X.base) I.ok.mod.kin hm.kp (thn (ha.run pos pins s1 σ H1 _ I1 q) fun us s2 ⟨vs, H2, I2, r, q2⟩ => ⟨I2.kIn, ?_⟩) hst hpl
  exact wpAny_call (run_fnR (us := .ref a :: us) (vs := .ref a :: vs) F hr hx I2 (.cons rfl r) q2)
end
end Vm
/-! {text for x in t}: a set of texts; len of it -/
namespace Vm
open PySem PySem.Spec PyProof.Rows L2 PpSet
section
variable {X : Cx}
theorem kset_new (P : Program) (w : World) (h : Heap) : (h.push { cls := .type "set", dict := none, data := .set #[] 0 (.fresh 0 0 (!w.params.followText "set-order")) }).SetOf (mixKind P w) h.objs.size (fun _ => false) 0 :=
  ⟨_, #[], 0, _, Heap.get?_push_size _ rfl, ⟨rfl, rfl, rfl⟩, rfl, (fun e he => by simp at he), (fun k => by simp), (by decide), (by rfl), rfl⟩
theorem kset_add {pins : List (Addr × Obj)} {σ : L2.St} {H : Hp} {s : Shared} {Er : Value → Shared → Prop} {B : Addr} {S : Key → Bool} {n : Nat} {k : Key} {u : Value} {Q : Value → Shared → Prop} (I : Inv X pins σ H s) (hB : H B = some (SetK X.prog X.w B S n)) (room : n + 1 < scanBound) (ru : RelV (kV k) u)
    (go : ∀ s', Inv X pins σ (upd H B (SetK X.prog X.w B (fun j => S j || decide (j = k)) (if S k = true then n else n + 1))) s' → Q .none s') : wpAny (model X.prog X.w) X.A (call (.builtin "set.add") [.ref B, u]) Q Er s := by
  refine call_set_add (kV_is ru) (key_scan ru) (setK_get I hB) room fun heap' same fresh => ?_
  have there : ∃ o, heap'.get? B = some o := by
    obtain ⟨o, _, _, _, ho, _⟩ := fresh
    exact ⟨o, ho⟩
  exact go _ (I.write (e := B) (t' := s.toks + 1) (by rw [hB]; trivial) (.inl rfl) (fun c o ne old => (same.2 c ne).trans old) there (setK_new fresh))
/-- the reading of {elt for target in iter if ..}, elt a text -/
def tScK (P : Program) (w : World) (wi : TI) (g : TG) (tt : TT) (te : TE) (slots : List Nat) : TE := fun σ H Q => wi σ H fun J H1 => ∀ B, H1 B = none → ∃ W : Nat → Nat → Hp → Prop, (∃ m, W 0 m (upd H1 B (SetK P w B (fun _ => false) 0))) ∧ ∀ i m G, W i m G →
  (J.stop i G ∧ Q (.ref B) G) ∨ (J.go i G ∧ ∃ Y : Hp → Prop, (∀ G', Y G' → ∃ m', m' < m ∧ W (i + 1) m' G') ∧ ∀ x G', J.yld i G x G' → g x (wipe σ slots) G' fun τ G2 => wipe τ slots = wipe σ slots ∧ tt τ G2 fun yes G3 =>
    if yes = true then te τ G3 fun y G4 => ∃ (k : Key) (S : Key → Bool) (n : Nat), y = kV k ∧ G4 B = some (SetK P w B S n) ∧ n + 1 < scanBound ∧ Y (upd G4 B (SetK P w B (fun j => S j || decide (j = k)) (if S k = true then n else n + 1))) else Y G3)
theorem sck_core {pins : List (Addr × Obj)} {s : Shared} {σ : L2.St} {H : Hp} {Q : VK} {elt target it0 : Expr} {conds : List Expr} {sco : Scope} {own : List (PySem.Str × Nat)} {p0 p1 : Pos} {wi : TI} {g : TG} {tt : TT} {te : TE} {us : Option (Value → Sem Unit)} {Qf : Value → Shared → Prop}
    (calm : X.calm = true) (nodup : X.N.Nodup) (I : Inv X pins σ H s) (hi : PI X target it0 wi) (blk : BlkOk X.N X.env.scope sco own)
    (hg : ∀ (z : Shared) (G : Hp) (C : Addr) (cl : List (PySem.Str × Addr)) (fp : List Addr), PG (X.blk z G sco (compEnvC sco cl C X.env) fp) target g)
    (ht : ∀ (z : Shared) (G : Hp) (C : Addr) (cl : List (PySem.Str × Addr)) (fp : List Addr), PTs (X.blk z G sco (compEnvC sco cl C X.env) fp) conds tt)
    (he : ∀ (z : Shared) (G : Hp) (C : Addr) (cl : List (PySem.Str × Addr)) (fp : List Addr), PE (X.blk z G sco (compEnvC sco cl C X.env) fp) elt te) (fold : ∀ x, foldedSetIterable it0 X.env x = pure x)
    (want : tScK X.prog X.w wi g tt te (own.map (·.2)) σ H Q)
    (fin : ∀ B C z m G, Inv X pins σ G z → Q (.ref B) G → z.heap.Ns C m → FpOk X pins G C → compPost (model X.prog X.w) X.A X.xe us Qf (.ref B) C (.ok .next) z) :
    wpAny (model X.prog X.w) X.A (comprehension (.SetComp elt [⟨target, it0, conds, 0⟩] sco p0) sco X.env p1 (PySem.newSet (.type "set")) false (eval it0 X.env) us) Qf X.xe s := by
  have frees : ∀ y ∈ sco.names, y.2 = .free → ∃ c, X.env.cells.lookup y.1 = some c := fun y hy q => (blk.free y hy q).elim (fun a => I.ok.has _ (.inl a)) fun a => I.ok.has _ (.inr a)
  refine wpAny_comprehension_free (use := us) rfl fold (closure_ok frees) blk.kind (fun y hy q => by rw [blk.uniq y hy, q]) (thn (hi.run pins s σ H _ I want) fun _ z1 h1 => thn h1 fun _ z2 h2 => ?_)
  obtain ⟨it, fp, tn, J, G2, rfl, I2, T, at2, ok2, body⟩ := h2
  refine newSet_ok (newEnv_comp ?_)
  generalize eB : z2.heap.objs.size = B
  have noneB : G2 B = none := I2.hok.fresh (Nat.le_of_eq eB)
  obtain ⟨W, ⟨m0, w0⟩, turn⟩ := body B noneB
  generalize e3 : ({ z2 with heap := z2.heap.push { cls := .type "set", dict := none, data := .set #[] 0 (.fresh 0 0 (!X.w.params.followText "set-order")) } } : Shared) = z3
  have I3 : Inv X pins σ (upd G2 B (SetK X.prog X.w B (fun _ => false) 0)) z3 := by
    subst e3
    subst eB
    exact I2.laid (t' := z2.toks) (fun b o old => Heap.get?_push_of_some _ old) (Nat.le_refl _) (setK_new (kset_new X.prog X.w z2.heap))
  have heap3 : z3.heap = z2.heap.push { cls := .type "set", dict := none, data := .set #[] 0 (.fresh 0 0 (!X.w.params.followText "set-order")) } := by subst e3; rfl
  have small : ∀ b ∈ fp, b < z2.heap.objs.size := fun b hb => let ⟨_, q, _⟩ := T.obj _ _ at2 b hb; Heap.lt_size q
  have ok3 : ∀ b ∈ fp, FpOk X pins (upd G2 B (SetK X.prog X.w B (fun _ => false) 0)) b ∧ b < z3.heap.objs.size := fun b hb => by
    have lt := small b hb
    refine ⟨⟨?_, (ok2 b hb).2⟩, ?_⟩
    · rw [upd_ne (eB ▸ Nat.ne_of_lt lt)]
      exact (ok2 b hb).1
    · rw [heap3, Heap.size_push]
      exact Nat.lt_succ_of_lt lt
  have at3 : tn 0 z3.heap := T.keep _ _ _ at2 fun b _ o old => heap3 ▸ Heap.get?_push_of_some _ old
  have I4 := block_start I3 blk nodup ok3
  have kg := hg z3 (upd G2 B (SetK X.prog X.w B (fun _ => false) 0)) z3.heap.objs.size (cellsFrom (z3.heap.objs.size + 1) sco.names (cloFrom X.env.cells sco.names [])) fp
  have kt := ht z3 (upd G2 B (SetK X.prog X.w B (fun _ => false) 0)) z3.heap.objs.size (cellsFrom (z3.heap.objs.size + 1) sco.names (cloFrom X.env.cells sco.names [])) fp
  have ke := he z3 (upd G2 B (SetK X.prog X.w B (fun _ => false) 0)) z3.heap.objs.size (cellsFrom (z3.heap.objs.size + 1) sco.names (cloFrom X.env.cells sco.names [])) fp
  show codeAny _ _ (.compStart (.SetComp elt [⟨target, it0, conds, 0⟩] sco p0) 0 (.ref it) (.ref B) (compEnvC sco (cellsFrom (z3.heap.objs.size + 1) sco.names (cloFrom X.env.cells sco.names [])) z3.heap.objs.size X.env)) (compPost (model X.prog X.w) X.A X.xe us Qf (.ref B) z3.heap.objs.size) { z3 with heap := pushCells (z3.heap.push { cls := .type "dict", data := .dict #[] }) sco.names }
  have nofp : ∀ b ∈ fp, (upd G2 B (SetK X.prog X.w B (fun _ => false) 0)) b = none := fun b hb => (ok3 b hb).1.1
  generalize eE : compEnvC sco (cellsFrom (z3.heap.objs.size + 1) sco.names (cloFrom X.env.cells sco.names [])) z3.heap.objs.size X.env = en at I4 kg kt ke ⊢
  have enL : en.locals = z3.heap.objs.size := by
    rw [← eE]
    rfl
  generalize eG3 : upd G2 B (SetK X.prog X.w B (fun _ => false) 0) = G3 at I3 I4 kg kt ke w0 nofp ok3
  generalize e4 : ({ z3 with heap := pushCells (z3.heap.push { cls := .type "dict", data := .dict #[] }) sco.names } : Shared) = z4 at I4 ⊢
  have at4 : tn 0 z4.heap := T.keep _ _ _ at3 fun b _ o old => e4 ▸ pushCells_keeps _ _ _ _ (Heap.get?_push_of_some _ old)
  have still : ∀ {τ : L2.St} {G' : Hp} {z : Shared}, Inv (X.blk z3 G3 sco en fp) [] τ G' z → (∀ b ∈ fp, G' b = none) → ∀ b ∈ fp, FpOk (X.blk z3 G3 sco en fp) [] G' b := fun {τ G' z} J' off b hb =>
    ⟨off b hb, (J'.ok.exf b hb).1, J'.ok.exfs b hb, .inl hb, fun x c q => (J'.ok.exf b hb).2 x c q, fun r hr => absurd (show r ∈ ([] : List (Addr × Obj)) ++ [] from hr) (by simp)⟩
  have run : codeAny (model X.prog X.w) X.A (.compLoop (.SetComp elt [⟨target, it0, conds, 0⟩] sco p0) 0 (.ref it) (.ref B) en) (compPost (model X.prog X.w) X.A X.xe us Qf (.ref B) z3.heap.objs.size) z4 := by
    refine compLoopS_any (fun n z => ∃ i G', Inv (X.blk z3 G3 sco en fp) [] (wipe σ (own.map (·.2))) G' z ∧ tn i z.heap ∧ (∀ b ∈ fp, G' b = none) ∧ W i n G') ?_ m0 ⟨0, G3, I4, at4, nofp, w0⟩
    rintro n z5 ⟨i, G5, I5, at5, off5, w5⟩
    rcases turn i n G5 w5 with ⟨stop, last⟩ | ⟨more, Y, less, step⟩
    · refine thnF (T.done (X.blk z3 G3 sco en fp) rfl rfl rfl calm i [] z5 _ G5 (fun _ _ => False) I5 (still I5 off5) at5 stop) fun _ z6 ⟨e6, I6⟩ => ?_
      subst e6
      have I7 : Inv X pins σ G5 z6 := I3.call' (ch := fp) I6.os I6.base I6.hok I6.bare fun b hb => let q := (ok3 b hb).1.2; ⟨q.2.2.1, q.1, q.2.2.2.1, q.2.2.2.2⟩
      have offC : G5 z3.heap.objs.size = none := by
        have q : G5 en.locals = none := I6.free
        exact enL ▸ q
      obtain ⟨m, space, _⟩ := I6.loc
      have space : z6.heap.Ns en.locals m := space
      rw [enL] at space
      exact fin B z3.heap.objs.size z6 m G5 I7 last space (I3.fpOk (Nat.le_refl _) offC)
    · refine thnF (T.item (X.blk z3 G3 sco en fp) rfl rfl rfl calm i [] z5 _ G5 (fun _ _ => False) I5 (still I5 off5) at5 more) fun _ z6 ⟨u, e6, h6⟩ => ?_
      subst e6
      refine thnF h6 fun _ z7 ⟨x, G7, I7, r7, y7, at7, off7⟩ => ?_
      have J7 := I7.pinned (still I7 off7) (T.obj _ _ at7)
      refine thnF (kg.run _ z7 _ G7 x u _ J7 r7 (step x G7 y7)) fun _ z8 ⟨τ, G8, I8, w8, q8⟩ => ?_
      refine thnF (kt.run _ z8 τ G8 _ I8 q8) fun yes z9 ⟨G9, I9, q9⟩ => ?_
      have turned : ∀ {z : Shared} {G' : Hp}, Inv (X.blk z3 G3 sco en fp) ([] ++ pinsAt fp z7.heap) τ G' z → Y G' → ∃ m, m < n ∧ ∃ i G', Inv (X.blk z3 G3 sco en fp) [] (wipe σ (own.map (·.2))) G' z ∧ tn i z.heap ∧ (∀ b ∈ fp, G' b = none) ∧ W i m G' := fun {z G'} J' yy => by
        obtain ⟨m', lt, w'⟩ := less G' yy
        have pinned : ∀ b ∈ fp, ∀ o, z7.heap.get? b = some o → z.heap.get? b = some o ∧ G' b = none := fun b hb o old =>
          let q := J'.pin (b, o) (List.mem_append_right _ (List.mem_append_right _ (mem_pinsAt hb old)))
          ⟨q.1, q.2.1⟩
        have len8 : (wipe σ (own.map (·.2))).length = τ.length := by
          rw [← w8, wipe_length]
        refine ⟨m', lt, i + 1, G', (J'.unpinned (pins := [])).weak len8 (fun j v q => (wipe_some (w8 ▸ q)).1), T.keep _ _ _ at7 fun b hb o old => (pinned b hb o old).1, fun b hb => ?_, w'⟩
        obtain ⟨o, old, _⟩ := T.obj _ _ at7 b hb
        exact (pinned b hb o old).2
      cases yes with
      | false =>
        rw [if_neg Bool.false_ne_true] at q9
        rw [if_neg Bool.false_ne_true]
        exact turned I9 q9
      | true =>
        rw [if_pos rfl] at q9
        rw [if_pos rfl]
        refine thnF (ke.run _ z9 τ G9 _ I9 q9) fun _ z10 ⟨yv, G10, I10, r10, k, S0, n0, ey, eB10, room, nx⟩ => ?_
        subst ey
        exact kset_add (X := X.blk z3 G3 sco en fp) I10 eB10 room r10 fun z11 I11 => turned I11 nx
  exact codeAny_compStart_set run (T.self X.A 0 _ _ _ at4 run)
theorem pe_sck {elt target it0 : Expr} {conds : List Expr} {sco : Scope} {own : List (PySem.Str × Nat)} {pos : Pos} {wi : TI} {g : TG} {tt : TT} {te : TE} (calm : X.calm = true) (nodup : X.N.Nodup) (hi : PI X target it0 wi) (blk : BlkOk X.N X.env.scope sco own)
    (hg : ∀ (z : Shared) (G : Hp) (C : Addr) (cl : List (PySem.Str × Addr)) (fp : List Addr), PG (X.blk z G sco (compEnvC sco cl C X.env) fp) target g)
    (ht : ∀ (z : Shared) (G : Hp) (C : Addr) (cl : List (PySem.Str × Addr)) (fp : List Addr), PTs (X.blk z G sco (compEnvC sco cl C X.env) fp) conds tt)
    (he : ∀ (z : Shared) (G : Hp) (C : Addr) (cl : List (PySem.Str × Addr)) (fp : List Addr), PE (X.blk z G sco (compEnvC sco cl C X.env) fp) elt te) (fold : ∀ x, foldedSetIterable it0 X.env x = pure x := by intro _; rfl) :
    PE X (.SetComp elt [⟨target, it0, conds, 0⟩] sco pos) (tScK X.prog X.w wi g tt te (own.map (·.2))) := by
  constructor
  intro pins s σ H Q I want
  rw [eval_SetComp]
  refine sck_core calm nodup I hi blk hg ht he fold want fun B C z m G J q space off => ⟨m, space, fun h2 same => ?_⟩
  obtain ⟨a0, a1, a2, a3, a4, a5⟩ := off
  exact ⟨.ref B, G, J.turned (t' := z.toks) (fun b o ne old => (same.2 b ne).trans old) a0 a1 a3 a4 a5, rfl, q⟩
end
end Vm
/-! Store.__init__, of tables with different names -/
namespace Vm
open PySem PySem.Spec PyProof.Rows L2 StX ClX PpSet
section
variable {X : Cx}
/-- len of a set of keys -/
theorem call_lenK : CallR X (.builtin "len") (fun xs H Q => ∃ (a : Addr) (S : Key → Bool) (n : Nat), xs = [.ref a] ∧ H a = some (SetK X.prog X.w a S n) ∧ n < 1000 ∧ Q (.int n) H) := by
  intro pins s σ H xs us Q I r h
  obtain ⟨a, S, n, rfl, ha, few, q⟩ := h
  rw [Vals.ref1 r]
  obtain ⟨o, es, ep, t, ho, hex, hd, _, _, _, hf, hn⟩ := setK_get I ha
  exact call_len_set ho hex hd hf (by rw [hn]; omega) ⟨.int n, H, I.tok _, ⟨_, by rw [hn]⟩, q⟩
end
end Vm
/-! a def with a star called in a try: what is raised is wished for at the slots -/
namespace Vm
open PySem PySem.Spec PyProof.Rows L2 StX
def tMRSl (C : Addr) (m : Str) (sp : Sp) (E : L2.St → XK) (ta : TE) (t : TA) : TE := fun σ H Q => ta σ H fun x H1 => ∃ a dx fs, x = .ref a ∧ H1 a = some (.ins C dx fs) ∧ fs.lookup m = none ∧ t σ H1 fun vs H2 => sp (x :: vs) H2 Q (E σ)
def tMakeRS (C : Addr) (sp : Sp) (E : L2.St → XK) (t : TA) : TE := fun σ H Q => t σ H fun vs H1 => ∀ x dx, H1 x = Option.none → H1 dx = Option.none → dx ≠ x →
  sp (V.ref x :: vs) (upd (upd H1 dx (.own x)) x (.ins C dx [])) (fun v H2 => v = .non ∧ Q (.ref x) H2) (E σ)
section
variable {X : Cx} {CX : CXT} {k : Nat} {f C : Addr} {sp : Sp} {E : L2.St → XK} {m x : Str} {p pos apos : Pos} {o e : Expr} {es : List Expr} {ta : TE} {t : TA}
theorem run_starAt {pins : List (Addr × Obj)} {σ : L2.St} {H : Hp} {s : Shared} {Q : VK} {us : List Value} {vs : List V} (F : FnR X.prog X.w X.K X.mg X.base CX k f sp) (hr : Room k X.A) (hx : PassesAt CX X σ (E σ)) (I : Inv X pins σ H s) (r : Vals vs us) (h : sp vs H Q (E σ)) :
    wpAny (model X.prog X.w) X.A (call (.ref f) us) (EP X pins σ Q) X.xe s := by
  refine wpAny_call (codeAny_mono (F X.A X.stack s H us vs Q (E σ) hr I.env0 r h) fun z s2 hq => ?_)
  cases z with
  | error e => exact hx pins H s e s2 I hq
  | ok fl =>
    cases fl with
    | ret u => exact I.after hq
    | next => exact False.elim hq
    | brk => exact False.elim hq
    | cont => exact False.elim hq
theorem pe_mRS {pl : Sem Bool} (he : PE X o ta) (c : Cls X.K C) (hm : Meth X.K C m f) (F : FnR X.prog X.w X.K X.mg X.base CX k f sp) (hr : Room k X.A) (hx : ∀ σ, PassesAt CX X σ (E σ)) (ha : PA X (e :: es) t)
    (hst : starEach (e :: es) X.env = (false, eval e X.env) :: starEach es X.env := by rfl) (hpl : (backTo pos (starEach es X.env)).any (·.1) = false := by rfl)
    (ht : eval (.Call (.Attribute o m apos) (e :: es) [] pos) X.env = (do
      let ov ← eval o X.env
      standAt apos.atName
      let (g, first) ← holding [ov] (getMethod ov m pl)
      callWith pos g first (backTo pos (starEach (e :: es) X.env)) (backToKw pos (keywordEach [] X.env))) := by rfl) :
    PE X (.Call (.Attribute o m apos) (e :: es) [] pos) (tMRSl C m sp E ta t) := by
  refine ⟨fun pins s σ H Q I h => ?_⟩
  refine PySem.W.methodCall_KW (pl := pl) (thn (he.run pins s σ H _ I h) fun u s1 ⟨y, H1, I1, rx, a, dx, fs, ex, ea, l, q⟩ => ?_) ht
  subst ex
  obtain rfl : u = Value.ref a := rx
  refine getmeth_ok I1 ea c hm l ?_
  refine PySem.W.callWith_K (first := [.ref a]) (h₀ := X.base) I.ok.mod.kin hm.kp (thn (ha.run pos pins s1 σ H1 _ I1 q) fun us s2 ⟨vs, H2, I2, r, q2⟩ => ⟨I2.kIn, ?_⟩) hst hpl
  exact run_starAt (us := .ref a :: us) (vs := .ref a :: vs) F hr (hx σ) I2 (.cons rfl r) q2
theorem pe_mRS0 {pl : Sem Bool} (he : PE X o ta) (c : Cls X.K C) (hm : Meth X.K C m f) (F : FnR X.prog X.w X.K X.mg X.base CX k f sp) (hr : Room k X.A) (hx : ∀ σ, PassesAt CX X σ (E σ))
    (ht : eval (.Call (.Attribute o m apos) [] [] pos) X.env = (do
      let ov ← eval o X.env
      standAt apos.atName
      let (g, first) ← holding [ov] (getMethod ov m pl)
      callWith pos g first (backTo pos (starEach [] X.env)) (backToKw pos (keywordEach [] X.env))) := by rfl) :
    PE X (.Call (.Attribute o m apos) [] [] pos) (tMRSl C m sp E ta tNil) := by
  refine ⟨fun pins s σ H Q I h => ?_⟩
  refine PySem.W.methodCall_KW (pl := pl) (thn (he.run pins s σ H _ I h) fun u s1 ⟨y, H1, I1, rx, a, dx, fs, ex, ea, l, q⟩ => ?_) ht
  subst ex
  obtain rfl : u = Value.ref a := rx
  refine getmeth_ok I1 ea c hm l ?_
  exact PySem.W.callWith_K0 (first := [.ref a]) I1.kIn hm.kp (run_starAt (us := [.ref a]) (vs := [.ref a]) F hr (hx σ) I1 (.cons rfl .nil) q)
theorem run_bornAt {pins : List (Addr × Obj)} {σ : L2.St} {H : Hp} {s : Shared} {Q : VK} {us : List Value} {vs : List V} (M : Mk X.K C f) (F : FnR X.prog X.w X.K X.mg X.base CX k f sp) (hr : Room (k + 1) X.A) (hx : PassesAt CX X σ (E σ)) (I : Inv X pins σ H s) (r : Vals vs us)
    (h : ∀ x dx, H x = Option.none → H dx = Option.none → dx ≠ x → sp (V.ref x :: vs) (upd (upd H dx (.own x)) x (.ins C dx [])) (fun v H2 => v = .non ∧ Q (.ref x) H2) (E σ)) : wpAny (model X.prog X.w) X.A (call (.ref C) us) (EP X pins σ Q) X.xe s := by
  have hq := h (s.heap.objs.size + 1) s.heap.objs.size (I.hok.fresh (Nat.le_succ _)) (I.hok.fresh (Nat.le_refl _)) (Nat.ne_of_lt (Nat.lt_succ_self _))
  have J := Inv.made (C := C) I
  have r2 : Vals (V.ref (s.heap.objs.size + 1) :: vs) (Value.ref (s.heap.objs.size + 1) :: us) := .cons rfl r
  refine wpAny_call (make_map (f := f) I.kIn M.makes M.init (beq_iff_eq.mp M.fn) (codeAny_mono (F _ X.stack _ _ (Value.ref (s.heap.objs.size + 1) :: us) _ _ (E σ) (hr.make C us []) (J.env0.make C us []) r2 hq) fun z s2 got => ?_))
  cases z with
  | error e => exact hx pins _ _ e s2 J got
  | ok fl =>
    cases fl with
    | ret u =>
      obtain ⟨v, H2, J2, rv, ev, q⟩ := J.after got
      subst ev
      exact ⟨rv, ⟨V.ref (s.heap.objs.size + 1), H2, J2, rfl, q⟩⟩
    | next => exact False.elim got
    | brk => exact False.elim got
    | cont => exact False.elim got
theorem pe_makeRS (M : Mk X.K C f) (F : FnR X.prog X.w X.K X.mg X.base CX k f sp) (hr : Room (k + 1) X.A) (hg : Gl X x) (hm : X.mg x = some (.ref C)) (hx : ∀ σ, PassesAt CX X σ (E σ)) (ha : PA X (e :: es) t) (hdb : (x == ("__debug__" : Str)) = false := by decide)
    (he : starEach (e :: es) X.env = (false, eval e X.env) :: starEach es X.env := by rfl) (hpl : (backTo pos (starEach es X.env)).any (·.1) = false := by rfl) : PE X (.Call (.Name x p) (e :: es) [] pos) (tMakeRS C sp E t) := by
  refine ⟨fun pins s σ H Q I h => ?_⟩
  refine wpAny_Call_Name_kw (ld_glob I hg hm ?_ hdb)
  refine PySem.W.callWith_K (h₀ := X.base) I.ok.mod.kin M.kp (thn (ha.run pos pins s σ H _ I h) fun us s1 ⟨vs, H1, I1, r, q⟩ => ⟨I1.kIn, ?_⟩) he hpl
  exact run_bornAt M F hr (hx σ) I1 r q
theorem pe_makeRS0 (M : Mk X.K C f) (F : FnR X.prog X.w X.K X.mg X.base CX k f sp) (hr : Room (k + 1) X.A) (hg : Gl X x) (hm : X.mg x = some (.ref C)) (hx : ∀ σ, PassesAt CX X σ (E σ)) (hdb : (x == ("__debug__" : Str)) = false := by decide) : PE X (.Call (.Name x p) [] [] pos) (tMakeRS C sp E tNil) := by
  refine ⟨fun pins s σ H Q I h => ?_⟩
  refine wpAny_Call_Name_kw (ld_glob I hg hm ?_ hdb)
  exact PySem.W.callWith_K0 I.kIn M.kp (run_bornAt (us := []) M F hr (hx σ) I .nil h)
end
/-! the different ones of some texts -/
end Vm
/-! a static method: called on its class, by position and by name, and on an instance -/
namespace Vm
open PySem PySem.Spec PyProof.Rows L2
/-- C.m is a static method: its record at p, its def at g -/
structure SMet (K : PySem.W.Frag) (C : Addr) (mc : Value) (m : Str) (p g : Addr) : Prop where
  rd : PySem.W.readsIn K C mc = true
  ga : PySem.W.specialIn K (.ref C) "__getattribute__" = some (some (.builtin "type.__getattribute__"))
  at_ : PySem.W.findCls K (.ref C) mc m = some (.get (.builtin "staticmethod.__get__") (.ref p) .none (.ref C))
  rc : ∃ rest, PySem.W.recIn K p "staticmethod" = some (.ref g :: rest)
  kp : PySem.W.keepIn K (.ref g) = true
  pg : PySem.W.plainGet K C Str.empty = true
  ic : PySem.W.isClsIn K C = true
  fi : PySem.W.findIn K (.ref C) m = some (some (.ref p))
  ty : PySem.W.typeIn K (.ref p) = some (.type "staticmethod")
  get : PySem.W.specialIn K (.ref p) "__get__" = some (some (.builtin "staticmethod.__get__"))
  tk : PySem.W.takesIn K (.ref p) = some false
  cp : PySem.W.copiedNames.contains m = false
theorem SMet.pg' {K : PySem.W.Frag} {C : Addr} {mc : Value} {m : Str} {p g : Addr} (k : SMet K C mc m p g) : PySem.W.plainGet K C m = true := k.pg
section
variable {X : Cx} {pins : List (Addr × Obj)} {σ : L2.St} {H : Hp} {s : Shared} {a C p g : Addr} {mc : Value} {m : Str} {A : Around} {E : Value → Shared → Prop}
theorem getsm_ok {b : Bool} {Q : Value → Shared → Prop} (I : Inv X pins σ H s) (k : SMet X.K C mc m p g) (h : ∀ s', Inv X pins σ H s' → Q (.ref g) s') : wpAny (model X.prog X.w) A (getAttr (.ref C) m b) Q E s := by
  obtain ⟨rest, hp⟩ := k.rc
  refine PySem.W.cls_bind I.kIn k.rd k.at_ ?_
  refine wpAny_call (PySem.W.sm_get (s := { s with toks := s.toks + 1 }) I.kIn hp (PySem.W.handed_on rfl ?_))
  exact h _ (I.tok _)
theorem getmethsm_ok {pl : Sem Bool} {Q : Value × List Value → Shared → Prop} (I : Inv X pins σ H s) (k : SMet X.K C mc m p g) (h : ∀ s', Inv X pins σ H s' → Q (.ref g, []) s') : wpAny (model X.prog X.w) A (getMethod (.ref C) m pl) Q E s :=
  PySem.W.method_cls I.kIn k.ga (getsm_ok I k h)
/-- o.m where m is a static method of o's class -/
theorem getmethsmi_ok {pl : Sem Bool} {ox od : Obj} {Q : Value × List Value → Shared → Prop} (I : Inv X pins σ H s) (J : PySem.W.InstAt s.heap a ox C (some od)) (hl : PySem.W.lookIn m od = some none) (k : SMet X.K C mc m p g)
    (h : ∀ s', Inv X pins σ H s' → Q (.ref g, []) s') : wpAny (model X.prog X.w) A (getMethod (.ref a) m pl) Q E s := by
  obtain ⟨rest, hp⟩ := k.rc
  refine PySem.W.method_usual (r := some (.ref p)) I.kIn J (PySem.W.plainGet_of k.pg').1 (PySem.W.plainGet_of k.pg').2 k.fi ?_ ?_
  · show ((PySem.W.typeIn X.K (.ref p)).any fun t => t != .type "function" && t != .type "method_descriptor" && t != .type "wrapper_descriptor") = true
    rw [k.ty]
    first
    | rfl
    | decide +kernel
  · refine PySem.W.get_bind I.kIn J (PySem.W.plainGet_of k.pg').1 (ClX.find_cm k.ic k.fi k.get k.tk k.cp hl) (PySem.W.plainGet_of k.pg').2 ?_
    refine wpAny_call (PySem.W.sm_get (s := { s with toks := s.toks + 1 }) I.kIn hp (PySem.W.handed_on rfl ?_))
    exact h _ (I.tok _)
end
/-- e.m(..), e the class at C -/
def tSMeth (C : Addr) (sp : Sp) (E : XK) (ta : TE) (t : TA) : TE := fun σ H Q => ta σ H fun x H1 => x = .ref C ∧ t σ H1 fun vs H2 => sp vs H2 Q E
/-- o.m(..), o an instance of the class at C -/
def tSMethI (C : Addr) (m : Str) (sp : Sp) (E : XK) (ta : TE) (t : TA) : TE := fun σ H Q => ta σ H fun x H1 => ∃ a dx fs, x = .ref a ∧ H1 a = some (.ins C dx fs) ∧ fs.lookup m = none ∧ t σ H1 fun vs H2 => sp vs H2 Q E
/-- e.m(k=..), e the class at C -/
def tSMethK (C : Addr) (sp : Sp) (gV : List V → List V → List V) (E : XK) (ta : TE) (tk : TA) : TE := fun σ H Q => ta σ H fun x H1 => x = .ref C ∧ tk σ H1 fun zs H2 => sp (gV [] zs) H2 Q E
section
variable {X : Cx} {CX : CXT} {k : Nat} {C p g : Addr} {fd : FuncData} {mc : Value} {sp : Sp} {E : XK} {o e : Expr} {es : List Expr} {kws : List Keyword} {m : Str} {pos apos : Pos} {ta : TE} {t tk : TA} {pl : Sem Bool} {ps ks : List Str} {gg : List Value → List Value → List Value} {gV : List V → List V → List V}
theorem pe_smeth (he : PE X o ta) (c : SMet X.K C mc m p g) (F : FnOk X.prog X.w X.K X.mg X.base CX k g fd ps sp) (hr : Room k X.A) (hb : Binds X.K fd ps []) (hx : Passes CX X E) (ha : PA X (e :: es) t)
    (hst : starEach (e :: es) X.env = (false, eval e X.env) :: starEach es X.env := by rfl) (hpl : (backTo pos (starEach es X.env)).any (·.1) = false := by rfl)
    (ht : eval (.Call (.Attribute o m apos) (e :: es) [] pos) X.env = (do
      let ov ← eval o X.env
      standAt apos.atName
      let (f, first) ← holding [ov] (getMethod ov m pl)
      callWith pos f first (backTo pos (starEach (e :: es) X.env)) (backToKw pos (keywordEach [] X.env))) := by rfl) :
    PE X (.Call (.Attribute o m apos) (e :: es) [] pos) (tSMeth C sp E ta t) := by
  refine ⟨fun pins s σ H Q I h => ?_⟩
  refine PySem.W.methodCall_KW (pl := pl) (thn (he.run pins s σ H _ I h) fun u s1 ⟨x, H1, I1, rx, ex, q⟩ => ?_) ht
  subst ex
  obtain rfl : u = Value.ref C := rx
  refine getmethsm_ok I1 c fun s2 I2 => ?_
  refine PySem.W.callWith_K (first := []) (h₀ := X.base) I.ok.mod.kin c.kp (thn (ha.run pos pins s2 σ H1 _ I2 q) fun us s3 ⟨vs, H2, I3, r, q2⟩ => ⟨I3.kIn, ?_⟩) hst hpl
  exact run_fnS (us := us) (vs := vs) F hr hb (E := fun _ => E) (fun pn H s e s' I => hx pn σ H s e s' I) I3 r q2
theorem pe_smethI (he : PE X o ta) (c : SMet X.K C mc m p g) (F : FnOk X.prog X.w X.K X.mg X.base CX k g fd ps sp) (hr : Room k X.A) (hb : Binds X.K fd ps []) (hx : Passes CX X E) (ha : PA X (e :: es) t)
    (hst : starEach (e :: es) X.env = (false, eval e X.env) :: starEach es X.env := by rfl) (hpl : (backTo pos (starEach es X.env)).any (·.1) = false := by rfl)
    (ht : eval (.Call (.Attribute o m apos) (e :: es) [] pos) X.env = (do
      let ov ← eval o X.env
      standAt apos.atName
      let (f, first) ← holding [ov] (getMethod ov m pl)
      callWith pos f first (backTo pos (starEach (e :: es) X.env)) (backToKw pos (keywordEach [] X.env))) := by rfl) :
    PE X (.Call (.Attribute o m apos) (e :: es) [] pos) (tSMethI C m sp E ta t) := by
  refine ⟨fun pins s σ H Q I h => ?_⟩
  refine PySem.W.methodCall_KW (pl := pl) (thn (he.run pins s σ H _ I h) fun u s1 ⟨x, H1, I1, rx, a, dx, fs, ex, ea, l, q⟩ => ?_) ht
  subst ex
  obtain rfl : u = Value.ref a := rx
  obtain ⟨mA, O, rr, _, _, _⟩ := ins_get I1.hok ea
  have hn : mA m = none := RelO.none_of (by rw [← l]; exact rr m)
  obtain ⟨od, J, hl⟩ := O.look
  refine getmethsmi_ok I1 J (by rw [hl m, hn]) c fun s2 I2 => ?_
  refine PySem.W.callWith_K (first := []) (h₀ := X.base) I.ok.mod.kin c.kp (thn (ha.run pos pins s2 σ H1 _ I2 q) fun us s3 ⟨vs, H2, I3, r, q2⟩ => ⟨I3.kIn, ?_⟩) hst hpl
  exact run_fnS (us := us) (vs := vs) F hr hb (E := fun _ => E) (fun pn H s e s' I => hx pn σ H s e s' I) I3 r q2
theorem run_fnkP {us ws : List Value} {vs zs : List V} {pins : List (Addr × Obj)} {σ : L2.St} {H : Hp} {s : Shared} {Q : VK} (F : FnOk X.prog X.w X.K X.mg X.base CX k g fd ps sp) (hr : Room k X.A) (hb : KBinds X.K fd ps ks gg gV) (hx : Passes CX X E)
    (I : Inv X pins σ H s) (r : Vals vs us) (rz : Vals zs ws) (h : sp (gV vs zs) H Q E) : wpAny (model X.prog X.w) X.A (call (.ref g) us (ks.zip ws)) (EP X pins σ Q) X.xe s := by
  have r2 := hb.rel r rz
  have hl : (gg us ws).length = ps.length := by rw [← r2.length]; exact F.len _ _ _ _ h
  refine wpAny_call (codeAny_mono (F.run X.A X.stack s H ⟨us, ks.zip ws⟩ (gg us ws) (gV vs zs) Q E hr I.env0 (hb.to s us ws I.kIn hl) r2 h) fun r s' hq => ?_)
  cases r with
  | error e => exact hx pins σ H s e s' I hq
  | ok fl =>
    cases fl with
    | ret u => exact I.after hq
    | next => exact False.elim hq
    | brk => exact False.elim hq
    | cont => exact False.elim hq
theorem pe_smethK (he : PE X o ta) (c : SMet X.K C mc m p g) (F : FnOk X.prog X.w X.K X.mg X.base CX k g fd ps sp) (hr : Room k X.A) (hb : KBinds X.K fd ps ks gg gV) (hx : Passes CX X E) (hkw : PK X kws tk)
    (hall : (backToKw pos (keywordEach kws X.env)).all (·.1.isSome) = true := by rfl) (hks : (backToKw pos (keywordEach kws X.env)).filterMap (·.1) = ks := by rfl)
    (hpl : ((backTo pos (starEach [] X.env)).any (·.1) || (backToKw pos (keywordEach kws X.env)).any (·.1.isNone)) = false := by rfl)
    (ht : eval (.Call (.Attribute o m apos) [] kws pos) X.env = (do
      let ov ← eval o X.env
      standAt apos.atName
      let (f, first) ← holding [ov] (getMethod ov m pl)
      callWith pos f first (backTo pos (starEach [] X.env)) (backToKw pos (keywordEach kws X.env))) := by rfl) :
    PE X (.Call (.Attribute o m apos) [] kws pos) (tSMethK C sp gV E ta tk) := by
  refine ⟨fun pins s σ H Q I h => ?_⟩
  refine PySem.W.methodCall_KW (pl := pl) (thn (he.run pins s σ H _ I h) fun u s1 ⟨x, H1, I1, rx, ex, q⟩ => ?_) ht
  subst ex
  obtain rfl : u = Value.ref C := rx
  refine getmethsm_ok I1 c fun s2 I2 => ?_
  refine PySem.W.callWith_KW0 (first := []) (h₀ := X.base) I.ok.mod.kin c.kp hall (thn (hkw.run pos pins s2 σ H1 _ I2 q) fun ws s3 ⟨zs, H2, I3, rz, q2⟩ => ⟨I3.kIn, ?_⟩) hpl
  rw [hks]
  exact run_fnkP (us := []) (vs := []) F hr hb hx I3 .nil rz q2
end
end Vm
/-! texts of tables and rows; read back -/
namespace Vm
open PySem L2 TL PySem.StrLaws PySem.Builtin.Str
/-! numbers -/
def tlI (n : Int) : List Nat := if n < 0 then 45 :: numL n.natAbs else numL n.natAbs
theorem tl_int (n : Int) : tl (Str.ofString (toString n)) = tlI n := by
  unfold tlI
  cases n with
  | ofNat m =>
    rw [if_neg (by show ¬ ((m : Nat) : Int) < 0; omega)]
    exact tl_num m
  | negSucc m =>
    rw [if_pos (Int.negSucc_lt_zero m)]
    have e : toString (Int.negSucc m) = "-" ++ toString (((m + 1 : Nat)) : Int) := rfl
    rw [e, tl_ofString, String.toList_append, List.map_append, ← tl_ofString (toString (((m + 1 : Nat)) : Int)), tl_num]
    rfl
/-- the digits of a number's text -/
def digW (x : Str) : Str := Txt.removeprefix x "-"
theorem pre_tl (x y : Str) (hy : tl y ≠ []) : (decide (0 + y.length ≤ x.length) && subAt x y 0) = pre (tl y) (tl x) := by
  have e := at_iff (x := x) hy 0
  rw [List.drop_zero] at e
  rw [Bool.eq_iff_iff, ← e]
  unfold PySem.StrLaws.At
  rw [Bool.and_eq_true, decide_eq_true_eq]
theorem remp (x : Str) : tl (digW x) = if pre [45] (tl x) = true then (tl x).drop 1 else tl x := by
  unfold digW
  have e := pre_tl x "-" (by decide +kernel)
  have t1 : tl ("-" : Str) = [45] := by decide +kernel
  rw [t1] at e
  rw [removeprefix_eq, e]
  split
  · show ((tl x).drop (("-" : Str)).length).take (x.length - (("-" : Str)).length) = _
    have l1 : (("-" : Str)).length = 1 := by decide +kernel
    rw [l1, List.take_of_length_le (by rw [List.length_drop, len_tl]; exact Nat.le_refl _)]
  · rfl
/-- what is_number_word says -/
def numW (x : Str) : Bool := decide (x = "0") || (Txt.isascii (digW x) && (Txt.isdigit (digW x) && !Txt.startswith (digW x) "0"))
theorem digits_cls {x : Str} (h : NumText.AllDigits (tl x)) (ne : tl x ≠ []) : Txt.isascii x = true ∧ Txt.isdigit x = true := by
  constructor
  · unfold Txt.isascii
    rw [← Array.all_toList, List.all_eq_true]
    intro c m
    have := h c m
    exact decide_eq_true (by omega)
  · unfold Txt.isdigit
    rw [← Array.all_toList, Bool.and_eq_true, List.all_eq_true]
    refine ⟨decide_eq_true ?_, fun c m => ?_⟩
    · have e2 : 0 < (tl x).length := List.length_pos_iff.mpr ne
      rw [len_tl]
      exact e2
    · have := h c m
      rw [PyProof.Rows.cls_isdigit c (by omega)]
      have k : ∀ n : _root_.Fin 128, 48 ≤ n.val → n.val ≤ 57 → PyProof.Rows.inR 48 57 ⟨#[n.val]⟩ = true := by decide +kernel
      exact k ⟨c, by omega⟩ (by show 48 ≤ c; omega) (by show c ≤ 57; omega)
theorem len_int {n : Int} (h : n.natAbs < 10 ^ 40) : (Str.ofString (toString n)).length ≤ 41 := by
  have l : (numL n.natAbs).length ≤ 40 := numL_len (by decide) h
  rw [len_tl, tl_int]
  unfold tlI
  split
  · rw [List.length_cons]
    omega
  · omega
/-! the signs of words -/
theorem joinL_mem {y : List Nat} : ∀ {ps : List (List Nat)} {c : Nat}, c ∈ joinL y ps → c ∈ y ∨ ∃ p ∈ ps, c ∈ p
  | [], c, m => nomatch m
  | [p], c, m => .inr ⟨p, List.mem_singleton.mpr rfl, m⟩
  | p :: q :: r, c, m => by
    have m' : c ∈ p ++ (y ++ joinL y (q :: r)) := m
    rcases List.mem_append.mp m' with m1 | m1
    · exact .inr ⟨p, List.mem_cons_self, m1⟩
    · rcases List.mem_append.mp m1 with m2 | m2
      · exact .inl m2
      · rcases joinL_mem m2 with h | ⟨p', a, b⟩
        · exact .inl h
        · exact .inr ⟨p', List.mem_cons_of_mem _ a, b⟩
theorem join_mem {y : Str} {ps : List Str} {c : Nat} (m : c ∈ tl (Txt.join y ps)) : c ∈ tl y ∨ ∃ p ∈ ps, c ∈ tl p := by
  rw [join_eq, tl_join] at m
  rcases joinL_mem m with h | ⟨p, a, b⟩
  · exact .inl h
  · obtain ⟨z, hz, rfl⟩ := List.mem_map.mp a
    exact .inr ⟨z, hz, b⟩
end Vm
/-! the law: columns -/
namespace Vm
open PySem L2
theorem But.put {s l : Addr} {H H2 : Hp} {D : Addr} {u : HO} (k : But s l H H2) (hD : H D = none) : But s l H (L2.upd H2 D u) := fun c o n1 n2 e => by
  rw [upd_ne fun q => by rw [q, hD] at e; exact nomatch e]
  exact k c o n1 n2 e
theorem Src.put {s l : Addr} {H : Hp} {ms : List Int} {z b : Int} {D : Addr} {u : HO} (h : Src H s l ms z b) (off : Off s l D) : Src (L2.upd H D u) s l ms z b := ⟨by
  rw [upd_ne off.1.symm]
  exact h.hs, by
  rw [upd_ne off.2.symm]
  exact h.hl, h.len⟩
end Vm
namespace Vm
open PySem L2
theorem nm_text {x : Str} (h : nmS x = true) : (reprText x).length ≤ 82 ∧ x.length ≤ 8 := by
  unfold nmS at h
  rw [Bool.and_eq_true, Bool.and_eq_true, decide_eq_true_eq, decide_eq_true_eq, List.all_eq_true] at h
  obtain ⟨_, h8, hl⟩ := h
  have e := StrLaws.reprText_len x fun c hc => by
    have z := hl c hc
    unfold lowB at z
    rw [Bool.and_eq_true, decide_eq_true_eq, decide_eq_true_eq] at z
    omega
  omega
theorem DP.nm {K : PySem.W.Frag} {H : Hp} {P : Addr → Prop} {x : Str} {n : Nat} (h : nmS x = true) : DP K H P (.str x) (.str x) n := .str (Nat.le_trans (nm_text h).1 (by decide)) (Nat.le_trans (nm_text h).2 (by decide))
theorem DPs.nms {K : PySem.W.Frag} {H : Hp} {P : Addr → Prop} {n : Nat} : ∀ {ss : List Str}, ss.all nmS = true → DPs K H P (ss.map V.str) (ss.map Tr.str) n
  | [], _ => .nil
  | x :: r, h => by
    rw [List.all_cons, Bool.and_eq_true] at h
    exact .cons (.nm h.1) (DPs.nms h.2)
theorem DPs.there {K : PySem.W.Frag} {H : Hp} {P : Addr → Prop} {vs : List V} {ts : List Tr} {n : Nat} (d : DPs K H P vs ts n) : DPs K H (fun c => P c ∧ ∃ o, H c = some o) vs ts n := let ⟨bs, d, p⟩ := d; ⟨bs, d, fun b hb => ⟨p b hb, d.there b hb⟩⟩
theorem DP.there {K : PySem.W.Frag} {H : Hp} {P : Addr → Prop} {v : V} {t : Tr} {n : Nat} (d : DP K H P v t n) : DP K H (fun c => P c ∧ ∃ o, H c = some o) v t n := let ⟨bs, d, p⟩ := d; ⟨bs, d, fun b hb => ⟨p b hb, d.there b hb⟩⟩
end Vm
/-! the law: its tables, its store -/
namespace Vm
open PySem L2 StX
theorem sameS_self : ∀ ss : List Str, sameS (ss.map Tr.str) ss = true
  | [] => rfl
  | x :: r => by
    show ((x == x) && sameS (r.map Tr.str) r) = true
    rw [beq_self_eq_true, sameS_self r]
    rfl
end Vm
/-! the program reads: every second word of eight, numbers, columns -/
namespace Vm
open PySem PySem.Spec PyProof.Rows L2 TL
/-- xs[lo::2] of eight items -/
def tStep2 (K : PySem.W.Frag) (odd : Bool) (te : TE) : TE := fun σ H Q => te σ H fun x H1 => ∃ (a : Addr) (x0 x1 x2 x3 x4 x5 x6 x7 : V), x = .ref a ∧ SqL K H1 a [x0, x1, x2, x3, x4, x5, x6, x7] ∧ ∀ p H2, H1 p = none → H2 = upd H1 p (.lst (if odd = true then [x1, x3, x5, x7] else [x0, x2, x4, x6])) → Q (.ref p) H2
section
variable {X : Cx}
theorem step_core {pins : List (Addr × Obj)} {σ : L2.St} {H : Hp} {s : Shared} {Q : VK} {odd : Bool} {a : Addr} {x0 x1 x2 x3 x4 x5 x6 x7 : V} {vl vu vs : Value} (I5 : Inv X pins σ H { s with heap := s.heap.push { cls := .type "slice", data := .fields #[vl, vu, vs] } })
    (pl : IsPart vl (if odd = true then some 1 else none)) (pu : IsPart vu none) (ps : IsPart vs (some 2)) (hx : SqL X.K H a [x0, x1, x2, x3, x4, x5, x6, x7])
    (q : ∀ p H2, H p = none → H2 = upd H p (.lst (if odd = true then [x1, x3, x5, x7] else [x0, x2, x4, x6])) → Q (.ref p) H2)
 :
    wpAny (model X.prog X.w) X.A (getItem (.ref a) (.ref s.heap.objs.size)) (EP X pins σ Q) X.xe { s with heap := s.heap.push { cls := .type "slice", data := .fields #[vl, vu, vs] } } := by
  obtain ⟨its, r, ht, hz⟩ := I5.list hx
  obtain ⟨u0, u1, u2, u3, u4, u5, u6, u7, rfl, r0, r1, r2, r3, r4, r5, r6, r7⟩ : ∃ u0 u1 u2 u3 u4 u5 u6 u7, its = [u0, u1, u2, u3, u4, u5, u6, u7] ∧ RelV x0 u0 ∧ RelV x1 u1 ∧ RelV x2 u2 ∧ RelV x3 u3 ∧ RelV x4 u4 ∧ RelV x5 u5 ∧ RelV x6 u6 ∧ RelV x7 u7 := by
    cases r with
    | cons a0 r => cases r with
      | cons a1 r => cases r with
        | cons a2 r => cases r with
          | cons a3 r => cases r with
            | cons a4 r => cases r with
              | cons a5 r => cases r with
                | cons a6 r => cases r with
                  | cons a7 r =>
                    cases r
                    exact ⟨_, _, _, _, _, _, _, _, rfl, a0, a1, a2, a3, a4, a5, a6, a7⟩
  cases odd with
  | true =>
    refine wpAny_getItem_list_slice ht.isList (Heap.IsSliceOf.new _ vl vu vs) pl pu ps (by decide) ?_ (by show 8 ≤ sizeLine; decide)
    have e : PySem.slicePick [u0, u1, u2, u3, u4, u5, u6, u7].toArray (if true = true then some 1 else none) none (some 2) = [u1, u3, u5, u7].toArray := by
      have r : sliceRange 1 8 2 = [1, 3, 5, 7] := by decide +kernel
      show ((sliceRange 1 8 2).filterMap ([u0, u1, u2, u3, u4, u5, u6, u7].toArray[·]?)).toArray = _
      rw [r]
      rfl
    rw [e]
    refine ⟨.ref _, _, I5.laid (t' := s.toks) (o := .lst [x1, x3, x5, x7]) (fun b ob q => Heap.get?_push_of_some _ q) (Nat.le_refl _) ?_, rfl, q _ _ (I5.hok.fresh (Nat.le_refl _)) rfl⟩
    exact ⟨by show 4 ≤ sizeLine; decide, _, 0, .cons r1 (.cons r3 (.cons r5 (.cons r7 .nil))), Heap.get?_push_size _ rfl⟩
  | false =>
    refine wpAny_getItem_list_slice ht.isList (Heap.IsSliceOf.new _ vl vu vs) pl pu ps (by decide) ?_ (by show 8 ≤ sizeLine; decide)
    have e : PySem.slicePick [u0, u1, u2, u3, u4, u5, u6, u7].toArray (if false = true then some 1 else none) none (some 2) = [u0, u2, u4, u6].toArray := by
      have r : sliceRange 0 8 2 = [0, 2, 4, 6] := by decide +kernel
      show ((sliceRange 0 8 2).filterMap ([u0, u1, u2, u3, u4, u5, u6, u7].toArray[·]?)).toArray = _
      rw [r]
      rfl
    rw [e]
    refine ⟨.ref _, _, I5.laid (t' := s.toks) (o := .lst [x0, x2, x4, x6]) (fun b ob q => Heap.get?_push_of_some _ q) (Nat.le_refl _) ?_, rfl, q _ _ (I5.hok.fresh (Nat.le_refl _)) rfl⟩
    exact ⟨by show 4 ≤ sizeLine; decide, _, 0, .cons r0 (.cons r2 (.cons r4 (.cons r6 .nil))), Heap.get?_push_size _ rfl⟩
theorem pe_even {e : Expr} {te : TE} {k : Nat} {p1 p3 pos : Pos} (he : PE X e te) : PE X (.Subscript e (.Slice none none (some (.Constant (.int 2) k p1)) p3) pos) (tStep2 X.K false te) := by
  refine ⟨fun pins s σ H Q I h => ?_⟩
  refine Subscript_ (thn (he.run pins s σ H _ I h) fun v s1 ⟨x, H1, I1, r1, a, x0, x1, x2, x3, x4, x5, x6, x7, ex, hx, q⟩ => ?_)
  subst ex
  cases r1
  have hst : PO X (some (.Constant (.int 2) k p1)) (tPart (tC (.int 2))) := po_some pe_int
  refine wpAny_Slice (thn (po_none.run pins s1 σ H1 (fun o H2 => o = none ∧ H2 = H1) I1 ⟨rfl, rfl⟩) fun vl s2 ⟨l, H2, I2, pl, el, e2⟩ => ?_)
  subst el e2
  refine thn (po_none.run pins s2 σ H2 (fun o H3 => o = none ∧ H3 = H2) I2 ⟨rfl, rfl⟩) fun vu s3 ⟨u, H3, I3, pu, eu, e3⟩ => ?_
  subst eu e3
  refine thn (hst.run pins s3 σ H3 (fun o H4 => o = some 2 ∧ H4 = H3) I3 ⟨2, rfl, rfl, rfl⟩) fun vs s4 ⟨o, H4, I4, ps, eo, e4⟩ => ?_
  subst eo e4
  have I5 : Inv X pins σ H4 { s4 with heap := s4.heap.push { cls := .type "slice", data := .fields #[vl, vu, vs] } } := I4.kept (t' := s4.toks) fun b ob q => Heap.get?_push_of_some _ q
  obtain ⟨its, r, ht, hz⟩ := I5.list hx
  show wpAny (model X.prog X.w) X.A (subscriptTail e (.Slice none none (some (.Constant (.int 2) k p1)) p3) (.ref a) (.ref s4.heap.objs.size)) (EP X pins σ Q) X.xe { s4 with heap := s4.heap.push { cls := .type "slice", data := .fields #[vl, vu, vs] } }
  refine tail_any (ops := [.ref a, .ref s4.heap.objs.size]) ht.isList.typeIs (PySem.slot_list_getitem.lookup) ?_ (by with_unfolding_all rfl)
  exact step_core (odd := false) I5 pl pu ps hx q
theorem pe_odd {e : Expr} {te : TE} {k k0 : Nat} {p0 p1 p3 pos : Pos} (he : PE X e te) : PE X (.Subscript e (.Slice (some (.Constant (.int 1) k0 p0)) none (some (.Constant (.int 2) k p1)) p3) pos) (tStep2 X.K true te) := by
  refine ⟨fun pins s σ H Q I h => ?_⟩
  refine Subscript_ (thn (he.run pins s σ H _ I h) fun v s1 ⟨x, H1, I1, r1, a, x0, x1, x2, x3, x4, x5, x6, x7, ex, hx, q⟩ => ?_)
  subst ex
  cases r1
  have hst : PO X (some (.Constant (.int 2) k p1)) (tPart (tC (.int 2))) := po_some pe_int
  have hlo : PO X (some (.Constant (.int 1) k0 p0)) (tPart (tC (.int 1))) := po_some pe_int
  refine wpAny_Slice (thn (hlo.run pins s1 σ H1 (fun o H2 => o = some 1 ∧ H2 = H1) I1 ⟨1, rfl, rfl, rfl⟩) fun vl s2 ⟨l, H2, I2, pl, el, e2⟩ => ?_)
  subst el e2
  refine thn (po_none.run pins s2 σ H2 (fun o H3 => o = none ∧ H3 = H2) I2 ⟨rfl, rfl⟩) fun vu s3 ⟨u, H3, I3, pu, eu, e3⟩ => ?_
  subst eu e3
  refine thn (hst.run pins s3 σ H3 (fun o H4 => o = some 2 ∧ H4 = H3) I3 ⟨2, rfl, rfl, rfl⟩) fun vs s4 ⟨o, H4, I4, ps, eo, e4⟩ => ?_
  subst eo e4
  have I5 : Inv X pins σ H4 { s4 with heap := s4.heap.push { cls := .type "slice", data := .fields #[vl, vu, vs] } } := I4.kept (t' := s4.toks) fun b ob q => Heap.get?_push_of_some _ q
  obtain ⟨its, r, ht, hz⟩ := I5.list hx
  show wpAny (model X.prog X.w) X.A (subscriptTail e (.Slice (some (.Constant (.int 1) k0 p0)) none (some (.Constant (.int 2) k p1)) p3) (.ref a) (.ref s4.heap.objs.size)) (EP X pins σ Q) X.xe { s4 with heap := s4.heap.push { cls := .type "slice", data := .fields #[vl, vu, vs] } }
  refine tail_any (ops := [.ref a, .ref s4.heap.objs.size]) ht.isList.typeIs (PySem.slot_list_getitem.lookup) ?_ (by with_unfolding_all rfl)
  exact step_core (odd := true) I5 pl pu ps hx q
end
def spNumW : Sp := fun vs H Q _ => ∃ x : Str, vs = [.str x] ∧ x.length ≤ 10000 ∧ Q (.bl (numW x)) H
/-- the columns that a word tells -/
def colsW (x : Str) : List Str := if x = "-" then [] else Txt.split x ","
end Vm
/-! the law: a row near those that are there -/
namespace Vm
open PySem L2
/-- a tuple that was made here -/
def TupV (H : Hp) (a : Addr) (xs : List V) : Prop := ∃ o : Obj, H a = some (.frz o (.tup xs)) ∧ o.dict = none
theorem TupV.fz {H H' : Hp} {a : Addr} {xs : List V} (k : Fz H H') (h : TupV H a xs) : TupV H' a xs := let ⟨o, e, d⟩ := h; ⟨o, k _ _ _ e, d⟩
theorem TupV.sq {K : PySem.W.Frag} {H : Hp} {a : Addr} {xs : List V} (h : TupV H a xs) : SqT K H a xs := let ⟨o, e, _⟩ := h; .inl (.inr ⟨o, e⟩)
section
variable {X : Cx}
def rSlT (K : PySem.W.Frag) : V → Option Int → Option Int → Hp → VK → Prop := fun x lo hi H Q => ∃ a xs, x = .ref a ∧ TupV H a xs ∧ ∀ (q : Addr) (H' : Hp), Same H H' → TupV H' q (cutV xs lo hi) → Q (.ref q) H'
theorem sl_T : SlR X (rSlT X.K) := by
  intro pins s σ H x v vl vu lo hi sl Q I rx hs pl pu h
  obtain ⟨a, xs, rfl, hx, q⟩ := h
  refine sl_tupF pins s σ H _ v vl vu lo hi sl Q I rx hs pl pu ⟨a, xs, rfl, hx.sq, fun z => ?_, fun p o hp hd => ?_⟩
  · refine q a H (Same.refl H) ?_
    rw [cut_all xs lo hi z]
    exact hx
  · exact q p _ (same_upd hp) ⟨o, upd_same, hd⟩
def rCatT (K : PySem.W.Frag) : R2 := fun x y H Q => ∃ a b xs ys, x = .ref a ∧ y = .ref b ∧ TupV H a xs ∧ TupV H b ys ∧ xs.length + ys.length ≤ sizeLine ∧ ∀ (q : Addr) (H' : Hp), Same H H' → TupV H' q (xs ++ ys) → Q (.ref q) H'
theorem op_catT2 : OpR X (binaryOp .Add) (rCatT X.K) := by
  intro pins s σ H x y v u Q I rx ry h
  obtain ⟨a, b, xs, ys, rfl, rfl, ha, hb, hz, q⟩ := h
  refine op_catF pins s σ H _ _ v u Q I rx ry ⟨a, b, xs, ys, rfl, rfl, ha.sq, hb.sq, hz, fun e => ?_, fun _ e => ?_, fun _ _ p o hp hd => ?_⟩
  · subst e
    exact q b H (Same.refl H) hb
  · subst e
    exact q a H (Same.refl H) (by rw [List.append_nil]; exact ha)
  · exact q p _ (same_upd hp) ⟨o, upd_same, hd⟩
end
end Vm
/-! rows put in one by one; all of a tuple of bools -/
namespace Vm
open PySem PySem.Spec PyProof.Rows L2 TL
section
variable {X : Cx}
def rAllT (K : PySem.W.Frag) : List V → Hp → VK → Prop := fun vs H Q => ∃ (a : Addr) (bs : List Bool), vs = [V.ref a] ∧ SqT K H a (bs.map V.bl) ∧ Q (.bl (bs.all id)) H
theorem cr_allT (hc : X.calm = true) : CallR X (.builtin "all") (rAllT X.K) := by
  intro pins s σ H vs us Q I r h
  obtain ⟨a, bs, rfl, hs, q⟩ := h
  obtain ⟨its, rv, hl, _⟩ := I.tuple hs
  rw [Vals.ref1 r]
  have hb := rv.bls
  obtain ⟨o, ho, hot⟩ := id hl
  have hlt : a < s.heap.objs.size := Heap.lt_size ho
  refine call_all_walk (wpAny_pyIter_tuple hl ?_)
  refine ⟨_, _, _, _, _, _, _, rfl, Walks.tuple (A := X.A.in1) (I.ok.hd hc) _ a (Nat.ne_of_lt hlt) its.toArray, ?_, truth_bools hb, fun h' tk hk => ?_⟩
  · exact ⟨⟨_, Heap.get?_push_size _ rfl, rfl, rfl⟩, Heap.IsTuple.push hl _⟩
  refine ⟨.bl _, H, I.kept fun b o eo => hk b o (fun hmem => ?_) (Heap.get?_push_of_some _ eo), ?_, q⟩
  · rcases List.mem_cons.mp hmem with e1 | hmem
    · exact absurd (e1 ▸ Heap.lt_size eo) (Nat.lt_irrefl _)
    · cases hmem
  · show Value.bool _ = Value.bool _
    rw [← L2.all_range, hb, List.size_toArray, List.length_map]
end
/-! no two rows clash -/
/-! rows put in -/
end Vm
/-! what a text tells: by the program's steps, and by the law's -/
namespace Vm
open PySem PySem.Spec PyProof.Rows L2 TL
def wordsT : List Str := ["table", "names", "numbers", "key"]
def tupS (ss : List Str) : Tr := .tup (ss.map Tr.str)
def validT (t : Ti) : Bool := valid (.str t.nm) (tupS t.ss) (tupS t.zs) (tupS t.ks)
theorem sameS_of : ∀ {ss zs : List Str}, sameS (ss.map Tr.str) zs = true → ss = zs
  | [], [], _ => rfl
  | [], _ :: _, h => nomatch h
  | _ :: _, [], h => nomatch h
  | x :: r, z :: s, h => by
    have h' : (isS z (.str x) && sameS (r.map Tr.str) s) = true := h
    rw [Bool.and_eq_true] at h'
    rw [sameS_of h'.2]
    congr 1
    exact beq_iff_eq.mp h'.1
/-- the integer that a word writes -/
def intW (x : Str) : Int := (PySem.intText? x).getD 0
/-- the table of the words of a line -/
def headT : List Str → Option Ti
  | [w0, nm, w2, a, w4, b, w6, c] => if [w0, w2, w4, w6] = wordsT ∧ validT ⟨nm, colsW a, colsW b, colsW c⟩ = true then some ⟨nm, colsW a, colsW b, colsW c⟩ else none
  | _ => none
def cellsW (a : Nat) (ws : List Str) : Row := (ws.take a).map Cell.s ++ (ws.drop a).map fun x => Cell.i (intW x)
/-- the row of the words of a line, as the program finds it -/
def rowW (t : Ti) (ws : List Str) : Option Row := if (ws.drop t.ss.length).all numW = true ∧ isRow t.ss.length t.zs.length (rowT (cellsW t.ss.length ws)) = true then some (cellsW t.ss.length ws) else none
/-- what is found so far -/
abbrev Fnd := List (Ti × List Row)
def rowLine (F : Fnd) (ws : List Str) : Bool := decide (ws.head? = some ("row" : Str)) && !F.isEmpty
/-- one line more, as the program reads it -/
def stepP (F : Fnd) (ws : List Str) : Option Fnd := if rowLine F ws = true then F.getLast?.bind fun p => (rowW p.1 (ws.drop 1)).map fun r => F.dropLast ++ [(p.1, p.2 ++ [r])]
  else (headT ws).map fun t => F ++ [(t, [])]
def runP : Fnd → List (List Str) → Option Fnd
  | F, [] => some F
  | F, ws :: r => (stepP F ws).bind fun G => runP G r
/-- the words of the lines of a text -/
def wordsOf (x : Str) : List (List Str) := (Txt.split x "\n").map fun l => Txt.split l " "
/-- what the program finds -/
def readP (x : Str) : Option Fnd := runP [] (wordsOf x)
end Vm
/-! words that write integers -/
namespace Vm
open PySem PySem.Spec PyProof.Rows L2 TL NumText
theorem isdig_of {c : Nat} (h : c < 128) (d : Unicode.isDigit c = true) : 48 ≤ c ∧ c ≤ 57 := by
  rw [PyProof.Rows.cls_isdigit c h] at d
  have k : ∀ n : _root_.Fin 128, PyProof.Rows.inR 48 57 ⟨#[n.val]⟩ = true → 48 ≤ n.val ∧ n.val ≤ 57 := by decide +kernel
  exact k ⟨c, h⟩ d
theorem asc_dig {x : Str} (h1 : Txt.isascii x = true) (h2 : Txt.isdigit x = true) : AllDigits (tl x) ∧ tl x ≠ [] := by
  unfold Txt.isascii at h1
  unfold Txt.isdigit at h2
  rw [← Array.all_toList, List.all_eq_true] at h1
  rw [← Array.all_toList, Bool.and_eq_true, List.all_eq_true] at h2
  refine ⟨fun c m => isdig_of (of_decide_eq_true (h1 c m)) (h2.2 c m), fun e => ?_⟩
  have l := of_decide_eq_true h2.1
  rw [len_tl, e] at l
  exact absurd l (by decide)
/-- the signs of a word that writes an integer -/
theorem num_signs {x : Str} (h : numW x = true) : AllDigits (tl (digW x)) ∧ tl (digW x) ≠ [] ∧ (x = "0" ∨ Txt.startswith (digW x) "0" = false) := by
  unfold numW at h
  rw [Bool.or_eq_true] at h
  rcases h with h | h
  · have e := of_decide_eq_true h
    subst e
    have e : tl (digW ("0" : Str)) = [48] := by decide +kernel
    rw [e]
    exact ⟨fun c m => by
      rw [List.mem_singleton.mp m]
      decide, by decide, .inl rfl⟩
  · rw [Bool.and_eq_true, Bool.and_eq_true] at h
    obtain ⟨a, b⟩ := asc_dig h.1 h.2.1
    exact ⟨a, b, .inr (by simpa using h.2.2)⟩
theorem val_lt : ∀ (cs : List Nat) (a : Nat), AllDigits cs → cs.foldl (fun acc c => acc * 10 + (c - 48)) a < (a + 1) * 10 ^ cs.length
  | [], a, _ => by
    show a < (a + 1) * 1
    omega
  | c :: cs, a, h => by
    have hc := h c List.mem_cons_self
    have e := val_lt cs (a * 10 + (c - 48)) h.tail
    show cs.foldl _ (a * 10 + (c - 48)) < (a + 1) * 10 ^ (cs.length + 1)
    refine Nat.lt_of_lt_of_le e ?_
    rw [Nat.pow_succ, Nat.mul_comm (10 ^ cs.length) 10, ← Nat.mul_assoc]
    exact Nat.mul_le_mul_right _ (by omega)
theorem digitsVal_lt {cs : List Nat} (h : AllDigits cs) : digitsVal cs < 10 ^ cs.length := by
  have e := val_lt cs 0 h
  rw [Nat.zero_add, Nat.one_mul] at e
  exact e
theorem num_int {x : Str} (h : numW x = true) (l : x.length ≤ 250) : PySem.intText? x = some (intW x) ∧ (intW x).natAbs < 10 ^ 250 := by
  obtain ⟨a, b, _⟩ := num_signs h
  have e := remp x
  have key : ∃ n : Int, PySem.intText? x = some n ∧ n.natAbs < 10 ^ 250 := by
    rw [len_tl] at l
    split at e
    · rename_i p
      cases q : tl x with
      | nil =>
        rw [q] at p
        cases p
      | cons c cs =>
        rw [q] at p e l
        have c45 : c = 45 := by
          have p' : ([c] : List Nat) = [45] := beq_iff_eq.mp p
          injection p'

        have e' : tl (digW x) = cs := e
        rw [e'] at a b
        rw [List.length_cons] at l
        refine ⟨_, intText_neg (x := x) (cs := cs) (by rw [← c45]; exact q) a b (by rw [len_tl, q, List.length_cons]; omega), ?_⟩
        rw [Int.natAbs_neg, Int.natAbs_natCast]
        exact Nat.lt_of_lt_of_le (digitsVal_lt a) (Nat.pow_le_pow_right (by decide) (by omega))
    · rw [e] at a b
      refine ⟨_, intText_digits (x := x) a b (by rw [len_tl]; omega), ?_⟩
      rw [Int.natAbs_natCast]
      exact Nat.lt_of_lt_of_le (digitsVal_lt a) (Nat.pow_le_pow_right (by decide) l)
  obtain ⟨n, e1, e2⟩ := key
  have e3 : intW x = n := by
    unfold intW
    rw [e1]
    rfl
  rw [e3]
  exact ⟨e1, e2⟩
/-- words of a line: not too long -/
structure SmW (ws : List Str) : Prop where
  many : ws.length ≤ 10000
  len : ∀ x ∈ ws, x.length ≤ 10000
  asc : ∀ x ∈ ws, ∀ c ∈ tl x, c < 128
  num : ∀ x ∈ ws, numW x = true → x.length ≤ 250
  cms : ∀ x ∈ ws, (tl x).count 44 ≤ 250
theorem str_dt {K : PySem.W.Frag} {H : Hp} {n : Nat} {x : Str} (l : x.length ≤ 10000) (a : ∀ c ∈ tl x, c < 128) : Dt K H (.str x) (.str x) n [] := by
  have big : sizeLine > 1000000 := by decide
  have b := StrLaws.reprText_len x fun c m => Nat.lt_of_lt_of_le (a c m) (by decide)
  exact .str (by omega) (by omega)
end Vm
/-! the program reads: a row of any words -/
namespace Vm
open PySem PySem.Spec PyProof.Rows L2 TL StX
/-- what the written part says of InvalidText -/
structure TxtX (K : PySem.W.Frag) (mg : Str → Option Value) (CX : Addr) : Prop where
  g : mg "InvalidText" = some (.ref CX)
  k : PySem.W.keepIn K (.ref CX) = true
  x : PySem.W.excIn K CX [.type "ValueError", .type "Exception", .type "BaseException", .type "object"] "ValueError.__new__" = true
  b : PySem.W.subIn K (.ref CX) (.type "BaseException") = some true
  t : PySem.W.typeIn K (.ref CX) = some (.type "type")
end Vm
/-! the program reads: the words of a table line -/
namespace Vm
open PySem PySem.Spec PyProof.Rows L2 TL
/-! a class made in a try: what is raised is wished for at the slots -/
def tMakeS (C : Addr) (sp : Sp) (dvs : List V) (E : L2.St → XK) (t : TA) : TE := fun σ H Q => t σ H fun vs H1 => ∀ x dx, H1 x = none → H1 dx = none → dx ≠ x →
  sp (.ref x :: (vs ++ dvs)) (upd (upd H1 dx (.own x)) x (.ins C dx [])) (fun v H2 => v = .non ∧ Q (.ref x) H2) (E σ)
section
variable {X : Cx} {CX : CXT} {k n : Nat} {f C : Addr} {fd : FuncData} {ps ks : List Str} {sp : Sp} {E : L2.St → XK} {x : Str} {p pos : Pos}
/-- an instance is laid, then __init__ runs: the bound values ws stand for xs -/
theorem born {pins : List (Addr × Obj)} {σ : L2.St} {H : Hp} {s : Shared} {Q : VK} {us ws : List Value} {kw : List (Str × Value)} {xs : List V} {E : XK} (M : Mk X.K C f) (F : FnOk X.prog X.w X.K X.mg X.base CX k f fd ps sp) (room : Room (k + 1) X.A) (out : PassesAt CX X σ E)
    (I : Inv X pins σ H s) (bind : ∀ s2 : Shared, X.K.In s2.heap → BindsTo s2 fd ⟨.ref (s.heap.objs.size + 1) :: us, kw⟩ (ps.zip ws)) (rel : Vals xs ws)
    (want : sp xs (upd (upd H s.heap.objs.size (.own (s.heap.objs.size + 1))) (s.heap.objs.size + 1) (.ins C s.heap.objs.size [])) (fun v G => v = .non ∧ Q (.ref (s.heap.objs.size + 1)) G) E) :
    wpAny (model X.prog X.w) X.A (call (.ref C) us kw) (EP X pins σ Q) X.xe s := by
  have J := Inv.made (C := C) I
  have run := F.run _ X.stack _ _ ⟨_, kw⟩ ws xs _ E (room.make C us kw) (J.env0.make C us kw) (bind _ J.kIn) rel want
  refine wpAny_call (make_map I.kIn M.makes M.init (beq_iff_eq.mp M.fn) (codeAny_mono run ?_))
  intro r s' got
  match r, got with
  | .error e, got => exact out pins _ _ e s' J got
  | .ok (.ret u), got =>
    obtain ⟨v, G, J2, rv, rfl, q⟩ := J.after got
    exact ⟨rv, .ref (s.heap.objs.size + 1), G, J2, rfl, q⟩
theorem pe_makeS {e : Expr} {es : List Expr} {t : TA} {dvs : List V} {ds : List Value} (M : Mk X.K C f) (F : FnOk X.prog X.w X.K X.mg X.base CX k f fd ps sp) (room : Room (k + 1) X.A) (glob : Gl X x) (named : X.mg x = some (.ref C)) (bind : Binds X.K fd ps ds) (dflt : Vals dvs ds)
    (out : ∀ σ, PassesAt CX X σ (E σ)) (args : PA X (e :: es) t) (plainName : (x == ("__debug__" : Str)) = false := by decide) (one : starEach (e :: es) X.env = (false, eval e X.env) :: starEach es X.env := by rfl) (noStar : (backTo pos (starEach es X.env)).any (·.1) = false := by rfl) :
    PE X (.Call (.Name x p) (e :: es) [] pos) (tMakeS C sp dvs E t) := by
  constructor
  intro pins s σ H Q I want
  refine wpAny_Call_Name_kw (ld_glob I glob named (PySem.W.callWith_K (h₀ := X.base) I.ok.mod.kin M.kp (thn (args.run pos pins s σ H _ I want) ?_) one noStar) plainName)
  rintro us s1 ⟨vs, H1, I1, rel, q⟩
  have old : ∀ {b}, s1.heap.objs.size ≤ b → H1 b = none := fun {b} l => I1.hok.fresh l
  have q := q (s1.heap.objs.size + 1) s1.heap.objs.size (old (Nat.le_succ _)) (old (Nat.le_refl _)) (Nat.ne_of_lt (Nat.lt_succ_self _))
  have rel2 : Vals (V.ref (s1.heap.objs.size + 1) :: (vs ++ dvs)) (Value.ref (s1.heap.objs.size + 1) :: (us ++ ds)) := .cons rfl (rel.append dflt)
  exact ⟨I1.kIn, born M F room (out σ) I1 (fun s2 K2 => bind s2 (.ref (s1.heap.objs.size + 1) :: us) K2 ((rel2.length.symm.trans (F.len _ _ _ _ q) : (Value.ref (s1.heap.objs.size + 1) :: (us ++ ds)).length = ps.length))) rel2 q⟩
end
theorem layAsc : ∀ {ss : List Str}, (∀ x ∈ ss, ∀ c ∈ tl x, c < 128) → PyData.canLayAll0 (ss.map PyData.str) = true
  | [], _ => rfl
  | x :: r, h => by
    have ih := layAsc fun y m => h y (List.mem_cons_of_mem _ m)
    have ok : PyData.strOk x = true := by
      unfold PyData.strOk
      rw [← Array.all_toList, List.all_eq_true]
      intro c hc
      have := h x List.mem_cons_self c hc
      exact decide_eq_true (by omega)
    simp only [List.map_cons, PyData.canLayAll0, PyData.canLay0, ih, ok, Bool.and_self]
theorem shapedAsc {ss : List Str} (h : ∀ x ∈ ss, ∀ c ∈ tl x, c < 128) : SeqAt.shaped (.tuple (ss.map PyData.str)) = true := by
  unfold SeqAt.shaped
  simp only [PyData.canLay0, layAsc h, PyData.depth, depthStrs ss]
  rfl
/-- texts of a split are not longer than the text -/
structure SmS (ss : List Str) : Prop where
  many : ss.length ≤ 10001
  len : ∀ x ∈ ss, x.length ≤ 10000
  asc : ∀ x ∈ ss, ∀ c ∈ tl x, c < 128
end Vm
/-! how long a text's words are -/
namespace Vm
open PySem PySem.Spec PyProof.Rows L2 TL
theorem spl1 (s c : Nat) (acc r : List Nat) : spl [s] 0 acc (c :: r) = if c = s then acc :: spl [s] 0 [] r else spl [s] 0 (acc ++ [c]) r := by
  have p : pre [s] (c :: r) = decide (c = s) := by
    show ((c :: r).take 1 == [s]) = _
    by_cases h : c = s
    · subst h
      rw [decide_eq_true rfl]
      exact beq_self_eq_true _
    · rw [decide_eq_false h]
      refine beq_eq_false_iff_ne.mpr fun z => h ?_
      injection z
  by_cases h : c = s
  · rw [spl_hit (by rw [p]; exact decide_eq_true h), if_pos h]
    rfl
  · rw [spl_miss (by rw [p]; exact decide_eq_false h), if_neg h]
/-- a part of a cut is a part of the text -/
theorem spl_infix {s : Nat} : ∀ (l acc : List Nat), ∀ p ∈ spl [s] 0 acc l, p <:+: acc ++ l
  | [], acc, p, m => by
    rw [spl_nil] at m
    rw [List.mem_singleton.mp m, List.append_nil]
    exact List.infix_rfl
  | c :: r, acc, p, m => by
    rw [spl1] at m
    split at m
    · rcases List.mem_cons.mp m with e | m
      · rw [e]
        exact ⟨[], c :: r, by simp⟩
      · have h := spl_infix r [] p m
        rw [List.nil_append] at h
        exact h.trans ⟨acc ++ [c], [], by simp⟩
    · have h := spl_infix r (acc ++ [c]) p m
      rw [List.append_assoc] at h
      exact h
theorem spl_count {s : Nat} : ∀ (l acc : List Nat), (spl [s] 0 acc l).length = l.count s + 1
  | [], acc => by
    rw [spl_nil]
    rfl
  | c :: r, acc => by
    rw [spl1]
    by_cases h : c = s
    · rw [if_pos h, List.length_cons, spl_count r [], h, List.count_cons_self]
    · rw [if_neg h, spl_count r _, List.count_cons_of_ne h]
section
variable {x y : Str} {s : Nat}
theorem cut_tl (ey : tl y = [s]) (ks : s < 256) : (Txt.split x y).map tl = spl [s] 0 [] (tl x) := by
  have hk : y.cps.all (· < 256) = true := by
    rw [← Array.all_toList]
    show (tl y).all _ = true
    rw [ey, List.all_cons, decide_eq_true ks]
    rfl
  rw [split_spl x y (by rw [ey]; simp) (kind_ok hk), ey]
theorem cut_infix (ey : tl y = [s]) (ks : s < 256) : ∀ p ∈ Txt.split x y, tl p <:+: tl x := fun p m => by
  have h := spl_infix (s := s) (tl x) [] (tl p) (by
    rw [← cut_tl ey ks]
    exact List.mem_map_of_mem m)
  exact h
theorem cut_count (ey : tl y = [s]) (ks : s < 256) : (Txt.split x y).length = (tl x).count s + 1 := by
  have h := congrArg List.length (cut_tl (x := x) ey ks)
  rw [List.length_map, spl_count] at h
  exact h
end
/-- the signs of integers -/
def dm (c : Nat) : Prop := c = 45 ∨ (48 ≤ c ∧ c ≤ 57)
/-- no integer in it is longer -/
def NumRun (N : Nat) (l : List Nat) : Prop := ∀ q, q <:+: l → (∀ c ∈ q, dm c) → q.length ≤ N
theorem NumRun.sub {N : Nat} {l q : List Nat} (h : NumRun N l) (s : q <:+: l) : NumRun N q := fun p a b => h p (a.trans s) b
theorem NumRun.mono {N M : Nat} {l : List Nat} (h : NumRun N l) (le : N ≤ M) : NumRun M l := fun p a b => Nat.le_trans (h p a b) le
/-- a text of the law's: not too long, plain signs, no long integer, not too many lines -/
structure TxOk (L N M : Nat) (x : Str) : Prop where
  len : x.length ≤ L
  asc : ∀ c ∈ tl x, c < 128
  run : NumRun N (tl x)
  nls : (tl x).count 10 ≤ M
  cms : (tl x).count 44 ≤ N
theorem num_dm {x : Str} (h : numW x = true) : ∀ c ∈ tl x, dm c := fun c m => by
  obtain ⟨a, _, _⟩ := num_signs h
  have e := remp x
  split at e
  · rename_i p
    cases q : tl x with
    | nil =>
      rw [q] at m
      exact nomatch m
    | cons d cs =>
      rw [q] at p e m
      have p' : ([d] : List Nat) = [45] := beq_iff_eq.mp p
      injection p' with p1
      have e' : tl (digW x) = cs := e
      rw [e'] at a
      rcases List.mem_cons.mp m with z | z
      · exact .inl (z.trans p1)
      · exact .inr (a c z)
  · rw [e] at a
    exact .inr (a c m)
theorem nl_tl : tl ("\n" : Str) = [10] := by decide +kernel
theorem sp_tl : tl (" " : Str) = [32] := by decide +kernel
theorem cm_tl : tl ("," : Str) = [44] := by decide +kernel
theorem infix_count {l q : List Nat} (h : q <:+: l) (s : Nat) : q.count s ≤ l.count s := h.sublist.count_le s
theorem infix_len {l q : List Nat} (h : q <:+: l) : q.length ≤ l.length := h.sublist.length_le
theorem TxOk.sub {L N M : Nat} {x p : Str} (h : TxOk L N M x) (s : tl p <:+: tl x) : TxOk L N M p := by
  refine ⟨?_, fun c m => h.asc c (s.subset m), h.run.sub s, Nat.le_trans (infix_count s 10) h.nls, Nat.le_trans (infix_count s 44) h.cms⟩
  have := infix_len s
  have l := h.len
  rw [len_tl] at l ⊢
  omega
/-- the words of a line -/
theorem line_sm {M : Nat} {l : Str} (h : TxOk 9999 250 M l) : SmW (Txt.split l " ") := by
  have sub := cut_infix (x := l) sp_tl (by decide)
  refine ⟨?_, fun x m => ?_, fun x m => (h.sub (sub x m)).asc, fun x m n => ?_, fun x m => (h.sub (sub x m)).cms⟩
  · rw [cut_count sp_tl (by decide)]
    have a := List.count_le_length (a := 32) (l := tl l)
    have b := h.len
    rw [len_tl] at b
    omega
  · have := (h.sub (sub x m)).len
    omega
  · have := (h.sub (sub x m)).run (tl x) List.infix_rfl (num_dm n)
    rw [len_tl]
    exact this
/-- how many columns -/
theorem cols_few {x : Str} (c : (tl x).count 44 ≤ 250) : (colsW x).length ≤ 251 := by
  unfold colsW
  split
  · exact Nat.zero_le _
  · rw [cut_count cm_tl (by decide)]
    omega
/-- the columns of a word -/
theorem cols_sms {x : Str} (l : x.length ≤ 10000) (a : ∀ c ∈ tl x, c < 128) : SmS (colsW x) := by
  unfold colsW
  split
  · exact ⟨Nat.zero_le _, (fun _ m => nomatch m), (fun _ m => nomatch m)⟩
  · have sub := cut_infix (x := x) cm_tl (by decide)
    refine ⟨?_, fun p m => ?_, fun p m c z => a c ((sub p m).subset z)⟩
    · rw [cut_count cm_tl (by decide)]
      have z := List.count_le_length (a := 44) (l := tl x)
      rw [len_tl] at l
      omega
    · have z := infix_len (sub p m)
      rw [len_tl] at l ⊢
      omega
end Vm
/-! the law reads: names -/
namespace Vm
open PySem L2
abbrev sLIsName : Stmt := top 54
theorem if_as {b b' : Bool} {A B : Prop} (e : b = b') (h : if b' = true then A else B) : if b = true then A else B := by
  rw [e]
  exact h
theorem lt_one (c d : Nat) : decide ([c] < [d]) = decide (c < d) := by
  by_cases h : c < d
  · rw [decide_eq_true h]
    exact decide_eq_true (List.cons_lt_cons_iff.mpr (.inl h))
  · rw [decide_eq_false h]
    refine decide_eq_false fun z => ?_
    rcases List.cons_lt_cons_iff.mp z with z | ⟨_, z⟩
    · exact h z
    · exact absurd z (List.not_lt_nil _)
section
variable {X : Cx}
/-- a list beside an empty one -/
def rNil (K : PySem.W.Frag) : R2 := fun x y H Q => ∃ (p q : Addr) (xs : List V), x = .ref p ∧ y = .ref q ∧ SqL K H p xs ∧ SqL K H q [] ∧ Q (.bl xs.isEmpty) H
theorem op_eqNil (hu : X.A.units < cLine) : OpR X (compareOp .Eq) (rNil X.K) := by
  intro pins s σ H x y v u Q I rx ry h
  obtain ⟨p, q, xs, rfl, rfl, hp, hq, k⟩ := h
  cases rx
  cases ry
  obtain ⟨its, r, pl, _⟩ := I.list hp
  obtain ⟨its2, r2, pl2, _⟩ := I.list hq
  cases r2
  cases r with
  | nil => exact SeqAt.eq_listAt (e := fun _ => true) pl.isList pl2.isList rfl hu (fun j h1 _ => absurd h1 (by simp)) ⟨.bl true, H, I, rfl, k⟩
  | cons a b => exact SeqAt.eq_list_lengthsAt pl.isList pl2.isList (by simp) hu ⟨.bl false, H, I, rfl, k⟩
end
def offs (cs : List Nat) : List V := (cs.filter fun c => !lowB c).map fun c => V.str ⟨#[c]⟩
theorem offs_nil (cs : List Nat) : (offs cs).isEmpty = cs.all lowB := by
  induction cs with
  | nil => rfl
  | cons c r ih =>
    unfold offs at ih ⊢
    rw [List.all_cons, List.filter_cons]
    cases lowB c with
    | true => exact ih
    | false => rfl
def spLName : Sp := fun vs H Q _ => ∃ x : Str, vs = [.str x] ∧ x.length ≤ 10000 ∧ ∀ H', Same H H' → Q (.bl (nmS x)) H'
section
variable {P : Program} {w : World} {K : PySem.W.Frag} {mg : Str → Option Value} {base : Heap} {fNm fNms fL fD fP : Addr}
theorem scLIsName : FnScope ["_law_it", "_law_sign"] ["_law_it"] (defScope sLIsName) := ⟨rfl, rfl, rfl, by decide +kernel, rfl, by decide +kernel, by decide +kernel⟩
theorem ok_lisname {f : Addr} {fd : FuncData} (F : Fun K "_law_is_name" "_law_is_name" sLIsName f fd) (len : mg "len" = none) : FnOk P w K mg base CX0 1 f fd ["_law_it"] spLName := by
  refine F.ok scLIsName (fun vs H Q E h => ?_) (fun cdv A outer s H vs Q E hr h => ?_)
  · obtain ⟨x, rfl, _⟩ := h
    rfl
  · obtain ⟨x, rfl, lx, k⟩ := h
    have big0 : sizeLine > 100000 := by decide
    refine ⟨_, pss_one (ps_ret (pe_and (pe_chain op_lt op_lt pe_int (pe_callB call_len_str (by rfl) len (by decide +kernel) (pa_cons (pv 0) pa_nil)) pe_int)
      (pe_one (pe_cmpR (op_eqNil hr.units0) (pe_lc (own := [("_law_sign", 1)]) (g := gName 1) rfl scLIsName.nd (pi_str (pv 0))
          (blkOk_by (N := ["_law_it", "_law_sign"]) (sc := defScope sLIsName) (by decide +kernel)) (fun _ _ _ _ _ => pg_name (i := 1) scLIsName.nd rfl (Or.inl rfl))
          (fun _ _ _ _ _ => pts_one (pt_not (pt_chain op_le_str op_le_str pe_str (pv 1) pe_str)))
          (fun _ _ _ _ _ => pv 1)) (pe_lst pa_nil) (nomark _))))), ?_⟩
    have no : ∀ {H' : Hp}, Same H H' → nmS x = false → Q (.bl false) H' := fun {H'} s' z => by
      rw [← z]
      exact k H' s'
    have hl : x.length = x.cps.toList.length := by
      show x.cps.size = _
      simp
    refine ⟨_, rfl, x, rfl, by omega, _, _, rfl, rfl, _, rfl, ?_⟩
    refine ite_ (fun e1 => ?_) (fun e1 => ?_)
    · refine ⟨_, _, rfl, rfl, _, rfl, ?_⟩
      refine ite_ (fun e8 => ?_) (fun e8 => ?_)
      · have z : x.length ≤ 8 := by omega
        refine ⟨_, rfl, x, rfl, fun D hD => ?_⟩
        refine lc_it (walk_str (z := x)) (fun i H' => Same H H' ∧ H' D = some (.lst (offs (x.cps.toList.take i)))) ⟨same_upd hD, upd_same⟩ (fun _ _ _ _ => True.intro) ?_ ?_
        · rintro i y H2 H3 hi ⟨s2, e2⟩ ⟨rfl, c, ec, rfl⟩
          have ec2 : x.cps.toList[i]? = some c := by
            rw [Array.getElem?_toList]
            exact ec
          have low : (decide (97 ≤ c) && decide (c ≤ 122)) = lowB c := rfl
          have step : offs (x.cps.toList.take (i + 1)) = if lowB c = true then offs (x.cps.toList.take i) else offs (x.cps.toList.take i) ++ [V.str ⟨#[c]⟩] := by
            unfold offs
            rw [List.take_add_one, ec2]
            show (((x.cps.toList.take i) ++ [c]).filter _).map _ = _
            rw [List.filter_append, List.map_append]
            cases e : lowB c with
            | true =>
              rw [if_pos rfl]
              simp [e]
            | false =>
              rw [if_neg (by decide)]
              simp [e]
          have few : (offs (x.cps.toList.take i)).length < sizeLine := by
            have l1 := List.length_filter_le (fun c => !lowB c) (x.cps.toList.take i)
            have l2 : (x.cps.toList.take i).length ≤ x.cps.toList.length := by
              rw [List.length_take]
              omega
            have big : sizeLine > 8 := by decide
            unfold offs
            rw [List.length_map]
            omega
          have put : lowB c = false → ∃ acc, H3 D = some (.lst acc) ∧ acc.length < sizeLine ∧ Same H (upd H3 D (.lst (acc ++ [V.str ⟨#[c]⟩]))) ∧ upd H3 D (.lst (acc ++ [V.str ⟨#[c]⟩])) D = some (.lst (offs (x.cps.toList.take (i + 1)))) := fun e =>
            ⟨_, e2, few, fun b o y => by
              rw [upd_ne (ne_of_none y hD)]
              exact s2 b o y, by rw [upd_same, step, if_neg (by rw [e]; decide)]⟩
          have a97 : (!decide ((⟨#[c]⟩ : Str).cps.toList < (Str.ofString "a").cps.toList)) = decide (97 ≤ c) := by
            have ea : (Str.ofString "a").cps.toList = [97] := by decide +kernel
            rw [ea]
            show (!decide ([c] < [97])) = _
            rw [lt_one]
            by_cases y : 97 ≤ c
            · rw [decide_eq_true y, decide_eq_false (by omega)]
              rfl
            · rw [decide_eq_false y, decide_eq_true (by omega)]
              rfl
          have z122 : (!(!decide ((Str.ofString "z").cps.toList < (⟨#[c]⟩ : Str).cps.toList))) = !decide (c ≤ 122) := by
            have ez : (Str.ofString "z").cps.toList = [122] := by decide +kernel
            rw [ez]
            show (!(!decide ([122] < [c]))) = _
            rw [lt_one]
            by_cases y : c ≤ 122
            · rw [decide_eq_true y, decide_eq_false (by omega)]
              rfl
            · rw [decide_eq_false y, decide_eq_true (by omega)]
              rfl
          refine ⟨rfl, _, rfl, _, _, rfl, rfl, _, rfl, ?_⟩
          refine if_as a97 (ite_ (fun y => ?_) (fun y => ?_))
          · refine ⟨_, _, rfl, rfl, _, rfl, if_as z122 (iteB (fun e => ?_) (fun e => ?_))⟩
            · have e' : lowB c = false := by
                rw [← low]
                rw [Bool.not_eq_true'] at e
                rw [e, Bool.and_false]
              exact ⟨_, rfl, put e'⟩
            · have e' : lowB c = true := by
                rw [← low]
                rw [Bool.not_eq_false'] at e
                rw [e, decide_eq_true y]
                rfl
              exact ⟨s2, by rw [step, if_pos e']; exact e2⟩
          · have e' : lowB c = false := by
              rw [← low, decide_eq_false y, Bool.false_and]
            exact ⟨_, rfl, iteT ⟨_, rfl, put e'⟩⟩
        · rintro H2 ⟨s2, e2⟩
          have full : x.cps.toList.take x.cps.size = x.cps.toList := by
            rw [← Array.length_toList]
            exact List.take_length
          rw [full] at e2
          refine ⟨Nat.zero_le _, fun p hp => ?_⟩
          have s3 := s2.trans (same_upd (o := .lst []) hp)
          refine ⟨D, p, offs x.cps.toList, rfl, rfl, SqL.of (same_upd hp _ _ e2), SqL.of upd_same, ?_⟩
          have z2 : (offs x.cps.toList).isEmpty = nmS x := by
            rw [offs_nil]
            unfold nmS
            rw [decide_eq_true (show 1 ≤ x.length by omega), decide_eq_true (show x.length ≤ 8 by omega), Bool.true_and, Bool.true_and]
          rw [z2]
          exact k _ s3
      · refine no (Same.refl H) ?_
        show nmS x = false
        unfold nmS
        rw [decide_eq_false (show ¬ x.length ≤ 8 by omega), Bool.false_and, Bool.and_false]
    · refine ⟨_, rfl, iteF (no (Same.refl H) ?_)⟩
      show nmS x = false
      unfold nmS
      rw [decide_eq_false (show ¬ 1 ≤ x.length by omega), Bool.false_and]
end
end Vm
/-! the law reads: integers -/
namespace Vm
open PySem PySem.Spec PyProof.Rows L2 TL
abbrev sLInt : Stmt := top 56
theorem tl_cut1 (x : Str) : tl (cutS x (some 1) none) = (tl x).drop 1 := by
  have e : HT.sIx x.length 0 (some 1) = min 1 x.length := HT.sIx_nat x.length 0 1
  show ((tl x).drop (HT.sIx x.length 0 (some 1))).take (x.length - HT.sIx x.length 0 (some 1)) = _
  rw [e, List.take_of_length_le (by rw [List.length_drop, len_tl]; exact Nat.le_refl _)]
  cases q : tl x with
  | nil => simp
  | cons c r =>
    rw [len_tl, q]
    rfl
theorem tl_cut0 (x : Str) : tl (cutS x none (some 1)) = (tl x).take 1 := by
  have e : HT.sIx x.length x.length (some 1) = min 1 x.length := HT.sIx_nat x.length x.length 1
  show ((tl x).drop 0).take (HT.sIx x.length x.length (some 1) - 0) = _
  rw [e, List.drop_zero, Nat.sub_zero]
  cases q : tl x with
  | nil => simp
  | cons c r =>
    rw [len_tl, q]
    simp
theorem minus_tl : tl ("-" : Str) = [45] := by decide +kernel
/-- the law's digits are the program's -/
theorem dig_minus {x : Str} (h : cutS x none (some 1) = "-") : cutS x (some 1) none = digW x := by
  refine ext_tl ?_
  have p : pre [45] (tl x) = true := by
    have := congrArg tl h
    rw [tl_cut0, minus_tl] at this
    exact beq_iff_eq.mpr this
  rw [tl_cut1, remp, if_pos p]
theorem dig_plain {x : Str} (h : cutS x none (some 1) ≠ "-") : x = digW x := by
  refine ext_tl ?_
  have p : ¬ pre [45] (tl x) = true := fun z => h (ext_tl (by
    rw [tl_cut0, minus_tl]
    exact beq_iff_eq.mp z))
  rw [remp, if_neg p]
def digB (c : Nat) : Bool := decide (48 ≤ c) && decide (c ≤ 57)
def offd (cs : List Nat) : List V := (cs.filter fun c => !digB c).map fun c => V.str ⟨#[c]⟩
theorem offd_nil (cs : List Nat) : (offd cs).isEmpty = cs.all digB := by
  induction cs with
  | nil => rfl
  | cons c r ih =>
    unfold offd at ih ⊢
    rw [List.all_cons, List.filter_cons]
    cases digB c with
    | true => exact ih
    | false => rfl
/-- the law's condition is the program's -/
theorem num_law {x : Str} (ne : tl (digW x) ≠ []) (d : (tl (digW x)).all digB = true) (z : ¬ ((tl (digW x)).head? = some 48 ∧ x ≠ "0")) : numW x = true := by
  have ad : NumText.AllDigits (tl (digW x)) := fun c m => by
    have := List.all_eq_true.mp d c m
    unfold digB at this
    rw [Bool.and_eq_true] at this
    exact ⟨of_decide_eq_true this.1, of_decide_eq_true this.2⟩
  obtain ⟨c1, c2⟩ := digits_cls ad ne
  unfold numW
  by_cases h0 : x = "0"
  · rw [decide_eq_true h0, Bool.true_or]
  · rw [c1, c2, Bool.true_and, Bool.true_and]
    have s : Txt.startswith (digW x) "0" = false := by
      have q : (tl (digW x)).head? ≠ some 48 := fun y => z ⟨y, h0⟩
      have e := pre_tl (digW x) "0" (by decide +kernel)
      have t1 : tl ("0" : Str) = [48] := by decide +kernel
      rw [t1] at e
      have p : pre [48] (tl (digW x)) = false := by
        cases w : tl (digW x) with
        | nil => rfl
        | cons c r =>
          rw [w] at q
          exact pre_of_head [] r fun y => q (by rw [y]; rfl)
      rw [p] at e
      exact e
    rw [s, Bool.or_eq_true]
    exact .inr rfl
theorem num_not1 {x : Str} (h : tl (digW x) = []) : numW x = false := by
  cases e : numW x with
  | false => rfl
  | true => exact absurd h (num_signs e).2.1
theorem num_not2 {x : Str} (h : (tl (digW x)).all digB = false) : numW x = false := by
  cases e : numW x with
  | false => rfl
  | true =>
    obtain ⟨a, _, _⟩ := num_signs e
    have : (tl (digW x)).all digB = true := List.all_eq_true.mpr fun c m => by
      unfold digB
      rw [decide_eq_true (a c m).1, decide_eq_true (a c m).2]
      rfl
    rw [this] at h
    cases h
theorem num_not3 {x : Str} (h : (tl (digW x)).head? = some 48) (h0 : x ≠ "0") : numW x = false := by
  cases e : numW x with
  | false => rfl
  | true =>
    obtain ⟨_, _, c⟩ := num_signs e
    rcases c with c | c
    · exact absurd c h0
    · have q := pre_tl (digW x) "0" (by decide +kernel)
      have t1 : tl ("0" : Str) = [48] := by decide +kernel
      rw [t1] at q
      have p : pre [48] (tl (digW x)) = true := by
        cases w : tl (digW x) with
        | nil =>
          rw [w] at h
          cases h
        | cons d r =>
          rw [w] at h
          have hd : d = 48 := Option.some.inj h
          subst hd
          exact beq_iff_eq.mpr rfl
      rw [p] at q
      have c' : Txt.startswith (digW x) "0" = true := q
      rw [c'] at c
      cases c
end Vm
/-! the law reads: integers -/
namespace Vm
open PySem PySem.Spec PyProof.Rows L2 TL
def intV (x : Str) : V := if numW x = true then .int (intW x) else .non
def spLInt : Sp := fun vs H Q _ => ∃ x : Str, vs = [.str x] ∧ x.length ≤ 10000 ∧ (numW x = true → x.length ≤ 250) ∧ ∀ H', Same H H' → Q (intV x) H'
theorem offd_plain (cs : List Nat) : ∃ ds : List PyData, offd cs = (cs.filter fun c => !digB c).map (fun c => V.str ⟨#[c]⟩) ∧ ds = (cs.filter fun c => !digB c).map (fun c => PyData.str ⟨#[c]⟩) ∧ PyData.plainAll ds = true ∧ PyData.depthAll ds = 0 ∧ (PyData.eqvAll ds [] = ds.isEmpty) ∧ ds.isEmpty = (offd cs).isEmpty ∧ ∀ (K : PySem.W.Frag) (H : Hp), DpAll K H (offd cs) ds := by
  refine ⟨_, rfl, rfl, ?_, ?_, ?_, ?_, fun K H => ?_⟩
  · generalize cs.filter _ = l
    induction l with
    | nil => rfl
    | cons c r ih => exact ih
  · generalize cs.filter _ = l
    induction l with
    | nil => rfl
    | cons c r ih =>
      show max 0 _ = 0
      rw [ih]
      rfl
  · generalize cs.filter _ = l
    cases l <;> rfl
  · unfold offd
    generalize cs.filter _ = l
    cases l <;> rfl
  · unfold offd
    generalize cs.filter _ = l
    induction l with
    | nil => exact .nil
    | cons c r ih => exact .cons (.str _) ih
section
variable {P : Program} {w : World} {K : PySem.W.Frag} {mg : Str → Option Value} {base : Heap}
theorem scLInt : FnScope ["_law_word", "_law_digits", "_law_sign"] ["_law_word"] (defScope sLInt) := ⟨rfl, rfl, rfl, by decide +kernel, rfl, by decide +kernel, by decide +kernel⟩
theorem ok_lint {f : Addr} {fd : FuncData} (F : Fun K "_law_integer_in" "_law_integer_in" sLInt f fd) (int : mg "int" = none) : FnOk P w K mg base CX0 1 f fd ["_law_word"] spLInt := by
  refine F.ok scLInt (fun vs H Q E h => ?_) (fun cdv A outer s H vs Q E hr h => ?_)
  · obtain ⟨x, rfl, _⟩ := h
    rfl
  · obtain ⟨x, rfl, lx, lnum, k⟩ := h
    have hu : (A.deeper (PyProof.Rows.envOfC "_law_integer_in" (defScope sLInt) s.heap.objs.size f cdv)).units + 8 < cLine := by
      have := hr.units
      omega
    refine ⟨_, pss_cons (ps_set (i := 1) scLInt.nd rfl (Or.inl rfl) (pe_ifExp (pt_cmpR op_eq (pe_slice sl_str (pv 0) po_none (po_some pe_int)) pe_str (nomark _)) (pe_slice sl_str (pv 0) (po_some pe_int) po_none) (pv 0)))
      (pss_cons (ps_if (PW.pt (pw_or (pt_cmpR op_eq (pv 1) pe_str (nomark _)) (pw_or1 (pt_cmpR (op_neP hu) (pe_lc (own := [("_law_sign", 2)]) (g := gName 2) rfl scLInt.nd (pi_str (pv 1))
          (blkOk_by (N := ["_law_word", "_law_digits", "_law_sign"]) (sc := defScope sLInt) (by decide +kernel)) (fun _ _ _ _ _ => pg_name (i := 2) scLInt.nd rfl (Or.inl rfl))
          (fun _ _ _ _ _ => pts_one (pt_cmpR op_notIn_sign (pv 2) pe_str (by rfl)))
          (fun _ _ _ _ _ => pv 2)) (pe_lst pa_nil) (nomark _))))) (pss_one (ps_ret pe_non)) pss_nil)
      (pss_one (ps_ret (pe_ifExp (PW.pt (pw_and (pt_cmpR op_eq (pe_ix ix_str (pv 1) pe_int (fun _ _ => rfl)) pe_str (nomark _)) (pw_and1 (pt_cmpR op_ne (pv 0) pe_str (nomark _))))) pe_non (pe_callTy call_int_str (by rfl) int (by decide +kernel) (pa_cons (pv 0) pa_nil)))))), ?_⟩
    have big : sizeLine > 100000 := by decide
    refine ⟨_, rfl, _, rfl, x, rfl, by omega, rfl, _, rfl, ?_⟩
    refine ite_ (fun em => ?_) (fun em => ?_)
    · have hD : cutS x (some 1) none = digW x := dig_minus (V.str.inj em)
      refine ⟨_, rfl, _, rfl, x, rfl, by omega, ?_⟩
      have lD : (cutS x (some 1) none).length ≤ 10000 := Nat.le_trans (cutS_length x _ _) lx
      have eD : tl (cutS x (some 1) none) = tl (digW x) := congrArg tl hD
      refine ⟨_, rfl, rfl, _, rfl, ?_⟩
      refine ite_ (fun e1 => ?_) (fun e1 => ?_)
      · refine iteT ?_
        have z : tl (digW x) = [] := by
          rw [← eD, V.str.inj e1]
          rfl
        have := k H (Same.refl H)
        unfold intV at this
        rw [num_not1 z, if_neg (by decide)] at this
        exact this
      · have ne : tl (digW x) ≠ [] := fun z => e1 (by
          rw [← eD] at z
          congr 1
          exact ext_tl (by rw [z]; rfl))
        refine ⟨_, rfl, (cutS x (some 1) none), rfl, fun D hD2 => ?_⟩
        refine lc_it (walk_str (z := (cutS x (some 1) none))) (fun i H' => Same H H' ∧ H' D = some (.lst (offd ((tl (cutS x (some 1) none)).take i)))) ⟨same_upd hD2, upd_same⟩ (fun _ _ _ _ => True.intro) ?_ ?_
        · rintro i y H2 H3 hi ⟨s2, e2⟩ ⟨rfl, c, ec, rfl⟩
          have ec2 : (tl (cutS x (some 1) none))[i]? = some c := by
            rw [Array.getElem?_toList]
            exact ec
          have low : decide (c ∈ ("0123456789" : Str).cps.toList) = digB c := by
            have t10 : ("0123456789" : Str).cps.toList = [48, 49, 50, 51, 52, 53, 54, 55, 56, 57] := by decide +kernel
            rw [t10]
            unfold digB
            rw [Bool.eq_iff_iff, decide_eq_true_iff, Bool.and_eq_true, decide_eq_true_iff, decide_eq_true_iff]
            simp only [List.mem_cons, List.not_mem_nil, or_false]
            omega
          have step : offd ((tl (cutS x (some 1) none)).take (i + 1)) = if digB c = true then offd ((tl (cutS x (some 1) none)).take i) else offd ((tl (cutS x (some 1) none)).take i) ++ [V.str ⟨#[c]⟩] := by
            unfold offd
            rw [List.take_add_one, ec2]
            show (((tl (cutS x (some 1) none)).take i ++ [c]).filter _).map _ = _
            rw [List.filter_append, List.map_append]
            cases e : digB c with
            | true =>
              rw [if_pos rfl]
              simp [e]
            | false =>
              rw [if_neg (by decide)]
              simp [e]
          have few : (offd ((tl (cutS x (some 1) none)).take i)).length < sizeLine := by
            have l1 := List.length_filter_le (fun c => !digB c) ((tl (cutS x (some 1) none)).take i)
            have l2 : ((tl (cutS x (some 1) none)).take i).length ≤ (tl (cutS x (some 1) none)).length := by
              rw [List.length_take]
              omega
            have l3 := len_tl (cutS x (some 1) none)
            unfold offd
            rw [List.length_map]
            omega
          refine ⟨rfl, _, rfl, c, _, rfl, rfl, _, rfl, ?_⟩
          refine if_as (congrArg (!·) low) (iteB (fun e => ?_) (fun e => ?_))
          · have e' : digB c = false := by
              rw [Bool.not_eq_true'] at e
              exact e
            refine ⟨_, rfl, _, e2, few, fun b o y => ?_, ?_⟩
            · rw [upd_ne (ne_of_none y hD2)]
              exact s2 b o y
            · rw [upd_same, step, if_neg (by rw [e']; decide)]
          · have e' : digB c = true := by
              rw [Bool.not_eq_false'] at e
              exact e
            exact ⟨s2, by rw [step, if_pos e']; exact e2⟩
        · rintro H2 ⟨s2, e2⟩
          have full : (tl (cutS x (some 1) none)).take ((cutS x (some 1) none)).cps.size = tl (cutS x (some 1) none) := by
            rw [← Array.length_toList]
            exact List.take_length
          rw [full] at e2
          refine ⟨Nat.zero_le _, fun p hp => ?_⟩
          have s3 := s2.trans (same_upd (o := .lst []) hp)
          have e3 := same_upd (o := .lst []) hp _ _ e2
          have e4 : upd H2 p (.lst []) p = some (.lst []) := upd_same
          generalize upd H2 p (.lst []) = H3 at s3 e3 e4 ⊢
          obtain ⟨ds, _, _, pl, dp, ev, em, dpa⟩ := offd_plain (tl (cutS x (some 1) none))
          refine ⟨.list ds, .list [], .lst (SqL.of e3) (dpa K H3), .lst (SqL.of e4) .nil, pl, rfl, by show (PyData.depthAll ds + 1) ≤ 6; rw [dp]; decide, ?_⟩
          have ev2 : (!PyData.eqv (.list ds) (.list [])) = !(tl (digW x)).all digB := by
            show (!PyData.eqvAll ds []) = _
            rw [ev, em, offd_nil, eD]
          refine ⟨_, rfl, if_as ev2 (iteB (fun nd => ?_) (fun nd => ?_))⟩
          · have := k H3 s3
            unfold intV at this
            rw [num_not2 (by simpa using nd), if_neg (by decide)] at this
            exact this
          · have ad : (tl (digW x)).all digB = true := by simpa using nd
            obtain ⟨c, r, ecr⟩ : ∃ c r, tl (cutS x (some 1) none) = c :: r := by
              cases q : tl (cutS x (some 1) none) with
              | nil => exact absurd (eD.symm.trans q) ne
              | cons c r => exact ⟨c, r, rfl⟩
            refine ⟨_, rfl, (cutS x (some 1) none), ((0 : Nat) : Int), c, rfl, rfl, by omega, atI_nat (show (tl (cutS x (some 1) none))[0]? = some c by rw [ecr]; rfl), rfl, _, rfl, ?_⟩
            have hc : (tl (digW x)).head? = some c := by rw [← eD, ecr]; rfl
            have fin : numW x = true → ∃ a n, [V.str x] = [V.str a] ∧ PySem.intText? a = some n ∧ a.length ≤ 640 ∧ Q (.int n) H3 := fun nx => by
              have z := k H3 s3
              unfold intV at z
              rw [if_pos nx] at z
              have l := lnum nx
              exact ⟨x, intW x, rfl, (num_int nx l).1, by omega, z⟩
            refine ite_ (fun c0 => ?_) (fun c0 => ?_)
            · have c48 : c = 48 := by
                have := congrArg tl (V.str.inj c0)
                have t1 : tl ("0" : Str) = [48] := by decide +kernel
                rw [t1] at this
                injection this
              refine ⟨_, rfl, rfl, _, rfl, iteB (fun h0 => ?_) (fun h0 => ?_)⟩
              · have n0 : x ≠ "0" := fun z => by
                  rw [z] at h0
                  have : decide (V.str ("0" : Str) = V.str "0") = true := decide_eq_true rfl
                  rw [this] at h0
                  cases h0
                have := k H3 s3
                unfold intV at this
                rw [num_not3 (hc.trans (by rw [c48])) n0, if_neg (by decide)] at this
                exact this
              · have e0 : x = "0" := by
                  cases q : decide (V.str x = V.str ("0" : Str)) with
                  | true => exact V.str.inj (of_decide_eq_true q)
                  | false =>
                    rw [q] at h0
                    cases h0
                exact ⟨_, rfl, fin (num_law ne ad fun z => z.2 e0)⟩
            · refine iteF ?_
              refine ⟨_, rfl, fin (num_law ne ad fun z => c0 ?_)⟩
              have c48 : c = 48 := Option.some.inj (hc.symm.trans z.1)
              rw [c48]
              congr 1
    · have hD : x = digW x := dig_plain fun z => em (by rw [z])
      refine ⟨_, rfl, ?_⟩
      have lD : x.length ≤ 10000 := lx
      have eD : tl x = tl (digW x) := congrArg tl hD
      refine ⟨_, rfl, rfl, _, rfl, ?_⟩
      refine ite_ (fun e1 => ?_) (fun e1 => ?_)
      · refine iteT ?_
        have z : tl (digW x) = [] := by
          rw [← eD, V.str.inj e1]
          rfl
        have := k H (Same.refl H)
        unfold intV at this
        rw [num_not1 z, if_neg (by decide)] at this
        exact this
      · have ne : tl (digW x) ≠ [] := fun z => e1 (by
          rw [← eD] at z
          congr 1
          exact ext_tl (by rw [z]; rfl))
        refine ⟨_, rfl, x, rfl, fun D hD2 => ?_⟩
        refine lc_it (walk_str (z := x)) (fun i H' => Same H H' ∧ H' D = some (.lst (offd ((tl x).take i)))) ⟨same_upd hD2, upd_same⟩ (fun _ _ _ _ => True.intro) ?_ ?_
        · rintro i y H2 H3 hi ⟨s2, e2⟩ ⟨rfl, c, ec, rfl⟩
          have ec2 : (tl x)[i]? = some c := by
            rw [Array.getElem?_toList]
            exact ec
          have low : decide (c ∈ ("0123456789" : Str).cps.toList) = digB c := by
            have t10 : ("0123456789" : Str).cps.toList = [48, 49, 50, 51, 52, 53, 54, 55, 56, 57] := by decide +kernel
            rw [t10]
            unfold digB
            rw [Bool.eq_iff_iff, decide_eq_true_iff, Bool.and_eq_true, decide_eq_true_iff, decide_eq_true_iff]
            simp only [List.mem_cons, List.not_mem_nil, or_false]
            omega
          have step : offd ((tl x).take (i + 1)) = if digB c = true then offd ((tl x).take i) else offd ((tl x).take i) ++ [V.str ⟨#[c]⟩] := by
            unfold offd
            rw [List.take_add_one, ec2]
            show (((tl x).take i ++ [c]).filter _).map _ = _
            rw [List.filter_append, List.map_append]
            cases e : digB c with
            | true =>
              rw [if_pos rfl]
              simp [e]
            | false =>
              rw [if_neg (by decide)]
              simp [e]
          have few : (offd ((tl x).take i)).length < sizeLine := by
            have l1 := List.length_filter_le (fun c => !digB c) ((tl x).take i)
            have l2 : ((tl x).take i).length ≤ (tl x).length := by
              rw [List.length_take]
              omega
            have l3 := len_tl x
            unfold offd
            rw [List.length_map]
            omega
          refine ⟨rfl, _, rfl, c, _, rfl, rfl, _, rfl, ?_⟩
          refine if_as (congrArg (!·) low) (iteB (fun e => ?_) (fun e => ?_))
          · have e' : digB c = false := by
              rw [Bool.not_eq_true'] at e
              exact e
            refine ⟨_, rfl, _, e2, few, fun b o y => ?_, ?_⟩
            · rw [upd_ne (ne_of_none y hD2)]
              exact s2 b o y
            · rw [upd_same, step, if_neg (by rw [e']; decide)]
          · have e' : digB c = true := by
              rw [Bool.not_eq_false'] at e
              exact e
            exact ⟨s2, by rw [step, if_pos e']; exact e2⟩
        · rintro H2 ⟨s2, e2⟩
          have full : (tl x).take (x).cps.size = tl x := by
            rw [← Array.length_toList]
            exact List.take_length
          rw [full] at e2
          refine ⟨Nat.zero_le _, fun p hp => ?_⟩
          have s3 := s2.trans (same_upd (o := .lst []) hp)
          have e3 := same_upd (o := .lst []) hp _ _ e2
          have e4 : upd H2 p (.lst []) p = some (.lst []) := upd_same
          generalize upd H2 p (.lst []) = H3 at s3 e3 e4 ⊢
          obtain ⟨ds, _, _, pl, dp, ev, em, dpa⟩ := offd_plain (tl x)
          refine ⟨.list ds, .list [], .lst (SqL.of e3) (dpa K H3), .lst (SqL.of e4) .nil, pl, rfl, by show (PyData.depthAll ds + 1) ≤ 6; rw [dp]; decide, ?_⟩
          have ev2 : (!PyData.eqv (.list ds) (.list [])) = !(tl (digW x)).all digB := by
            show (!PyData.eqvAll ds []) = _
            rw [ev, em, offd_nil, eD]
          refine ⟨_, rfl, if_as ev2 (iteB (fun nd => ?_) (fun nd => ?_))⟩
          · have := k H3 s3
            unfold intV at this
            rw [num_not2 (by simpa using nd), if_neg (by decide)] at this
            exact this
          · have ad : (tl (digW x)).all digB = true := by simpa using nd
            obtain ⟨c, r, ecr⟩ : ∃ c r, tl x = c :: r := by
              cases q : tl x with
              | nil => exact absurd (eD.symm.trans q) ne
              | cons c r => exact ⟨c, r, rfl⟩
            refine ⟨_, rfl, x, ((0 : Nat) : Int), c, rfl, rfl, by omega, atI_nat (show (tl x)[0]? = some c by rw [ecr]; rfl), rfl, _, rfl, ?_⟩
            have hc : (tl (digW x)).head? = some c := by rw [← eD, ecr]; rfl
            have fin : numW x = true → ∃ a n, [V.str x] = [V.str a] ∧ PySem.intText? a = some n ∧ a.length ≤ 640 ∧ Q (.int n) H3 := fun nx => by
              have z := k H3 s3
              unfold intV at z
              rw [if_pos nx] at z
              have l := lnum nx
              exact ⟨x, intW x, rfl, (num_int nx l).1, by omega, z⟩
            refine ite_ (fun c0 => ?_) (fun c0 => ?_)
            · have c48 : c = 48 := by
                have := congrArg tl (V.str.inj c0)
                have t1 : tl ("0" : Str) = [48] := by decide +kernel
                rw [t1] at this
                injection this
              refine ⟨_, rfl, rfl, _, rfl, iteB (fun h0 => ?_) (fun h0 => ?_)⟩
              · have n0 : x ≠ "0" := fun z => by
                  rw [z] at h0
                  have : decide (V.str ("0" : Str) = V.str "0") = true := decide_eq_true rfl
                  rw [this] at h0
                  cases h0
                have := k H3 s3
                unfold intV at this
                rw [num_not3 (hc.trans (by rw [c48])) n0, if_neg (by decide)] at this
                exact this
              · have e0 : x = "0" := by
                  cases q : decide (V.str x = V.str ("0" : Str)) with
                  | true => exact V.str.inj (of_decide_eq_true q)
                  | false =>
                    rw [q] at h0
                    cases h0
                exact ⟨_, rfl, fin (num_law ne ad fun z => z.2 e0)⟩
            · refine iteF ?_
              refine ⟨_, rfl, fin (num_law ne ad fun z => c0 ?_)⟩
              have c48 : c = 48 := Option.some.inj (hc.symm.trans z.1)
              rw [c48]
              congr 1
end
end Vm
/-! the law reads: a row -/
namespace Vm
open PySem PySem.Spec PyProof.Rows L2 TL
theorem plainStrs : ∀ ss : List Str, PyData.plainAll (ss.map PyData.str) = true
  | [] => rfl
  | _ :: r => plainStrs r
end Vm
/-! the program reads: a table of any words -/
namespace Vm
open PySem PySem.Spec PyProof.Rows L2 TL L2H
/-- raise C() from None, in an except suite -/
theorem pss_from {X : Cx} {W : WX} {CE : Addr} {x : Str} {p p2 pos cpos : Pos} {j : Nat} (hot : HotC X) (tk : L2.Takes X W) (ex : X.ex = []) (q : PySem.W.excIn X.K CE [.type "ValueError", .type "Exception", .type "BaseException", .type "object"] "ValueError.__new__" = true)
    (b : PySem.W.subIn X.K (.ref CE) (.type "BaseException") = some true) (t : PySem.W.typeIn X.K (.ref CE) = some (.type "type")) (g : X.mg x = some (.ref CE)) (k : PySem.W.keepIn X.K (.ref CE) = true) (hg : Gl X x) (hdb : (x == ("__debug__" : Str)) = false := by decide) :
    PSs X [.Raise (some (.Call (.Name x p) [] [] p2)) (some (.Constant .none j cpos)) pos] (fun D σ H => (∀ a, H a = none → Fr0 X.H_0 a) ∧ W (.ref CE) none σ H) := by
  have r := pss_one (ps_raiseHN (j := j) (cpos := cpos) (pos := pos) hot tk (pmk_ret5 ex (pe_xbare (p := p) (pos := p2) PySem.F.excBase_ValueError q g k hg hdb)))
  refine ⟨fun pins s σ H D I h => r.run pins s σ H D I fun a na => ?_⟩
  refine ⟨a, .ref CE, rfl, upd_same, h.1 a na, raises_own b t, ?_⟩
  rw [delH_new na]
  exact h.2
end Vm
/-! len(o), x in o of an own instance -/
namespace Vm
open PySem PySem.Spec PyProof.Rows L2
section
variable {X : Cx} {CX : CXT} {k : Nat} {f C : Addr} {sp : Sp} {E : XK}
/-- len(o), by the own def -/
def rLenOwn (C : Addr) (sp : Sp) (E : XK) : List V → Hp → VK → Prop := fun xs H Q => ∃ (a dx : Addr) (fs : List (Str × V)), xs = [V.ref a] ∧ H a = some (.ins C dx fs) ∧ sp [.ref a] H (fun z H' => ∃ n : Nat, z = .int n ∧ n < 1000000 ∧ Q (.int n) H') E
theorem call_lenOwn (hs : PySem.W.findIn X.K (.ref C) "__len__" = some (some (.ref f))) (hf : PySem.W.typeIn X.K (.ref f) = some (.type "function")) (F : FnR X.prog X.w X.K X.mg X.base CX k f sp) (hr : Room (k + 1) X.A) (hx : Passes CX X E) :
    CallR X (.builtin "len") (rLenOwn C sp E) := by
  intro pins s σ H xs us Q I r h
  obtain ⟨a, dx, fs, rfl, ha, q⟩ := h
  obtain ⟨u, rfl, ru⟩ := r.one
  cases (show u = Value.ref a from ru)
  obtain ⟨mA, J0, _⟩ := ins_get I.hok ha
  obtain ⟨od, J, _⟩ := J0.look
  have hr1 : Room k X.A.in1 := Room.in1 hr
  refine Calls.call_function_entry PySem.kind_len PySem.plain_len PySem.entry_len (PySem.args_len1 _) ?_
  unfold Builtin.«len»
  refine wpAny_bind (m := oneArg "len" _) (wpAny_pure ?_)
  refine wpAny_bind (m := callSpecial? (.ref a) (Str.ofString "__len__")) (PySem.W.special_fn I.kIn J hs hf (wpAny_mono (wpAny_call (SlX.run_at (us := [.ref a]) (ws := [.ref a]) F hr1 I.env0.in1 hx I (.cons rfl .nil) q)) (fun w s' z => ?_) fun _ _ x => x))
  obtain ⟨z', H', I', rz, n, en, few, qz⟩ := z
  subst en
  obtain ⟨t, e⟩ := (show ∃ t, w = Value.int (n : Int) t from rz)
  subst e
  refine wpAny_bind (wpAny_holding (wpAny_pure ?_))
  refine wpAny_bind (wpAny_letGo ?_)
  have c0 : ¬ ((n : Int) < 0) := by omega
  have c1 : ¬ ((n : Int) ≥ 2 ^ 63) := by omega
  show wpAny _ _ (if (n : Int) < 0 then _ else _) _ _ _
  rw [if_neg c0]
  show wpAny _ _ (if (n : Int) ≥ 2 ^ 63 then _ else _) _ _ _
  rw [if_neg c1]
  exact wpAny_bind (wpAny_mkInt (wpAny_pure ⟨_, rfl, .int n, H', I'.tok _, ⟨_, rfl⟩, qz⟩))
/-- x in o, x not in o by the own def -/
def rInOwn (C : Addr) (sp : Sp) (E : XK) (neg : Bool) : R2 := fun x y H Q => ∃ (a dx : Addr) (fs : List (Str × V)), y = V.ref a ∧ H a = some (.ins C dx fs) ∧ sp [.ref a, x] H (fun z H' => ∃ b : Bool, z = .bl b ∧ Q (.bl (if neg then !b else b)) H') E
theorem in_own (hs : PySem.W.findIn X.K (.ref C) "__contains__" = some (some (.ref f))) (hf : PySem.W.typeIn X.K (.ref f) = some (.type "function")) (F : FnR X.prog X.w X.K X.mg X.base CX k f sp) (hr : Room k X.A) (hx : Passes CX X E)
    {pins : List (Addr × Obj)} {s : Shared} {σ : L2.St} {H : Hp} {x : V} {a dx : Addr} {fs : List (Str × V)} {v : Value} {Q : Bool → Shared → Prop} (I : Inv X pins σ H s) (rx : RelV x v) (ha : H a = some (.ins C dx fs))
    (q : sp [.ref a, x] H (fun z H' => ∃ b : Bool, z = .bl b ∧ ∀ s', Inv X pins σ H' s' → Q b s') E) : wpAny (model X.prog X.w) X.A (contains (.ref a) v) Q X.xe s := by
  obtain ⟨mA, J0, _⟩ := ins_get I.hok ha
  obtain ⟨od, J, _⟩ := J0.look
  unfold contains
  refine wpAny_holding ?_
  have e0 : stdlibNamesSay? (.ref a) v = none := by cases v <;> rfl
  rw [e0]
  refine wpAny_bind (m := specialOf (.ref a) (Str.ofString "__contains__")) (wpAny_bind (J.type.here ((PySem.W.looks_findIn I.kIn hs).here ?_)))
  show wpAny _ _ (if (some (Value.ref f) == some Value.none) = true then _ else _) _ _ _
  rw [if_neg (by intro z; cases z)]
  refine wpAny_bind (m := callSpecialUnlessNone? (.ref a) (Str.ofString "__contains__") [v] _) ?_
  unfold callSpecialUnlessNone?
  refine wpAny_bind (m := specialOf (.ref a) (Str.ofString "__contains__")) (wpAny_bind (J.type.here ((PySem.W.looks_findIn I.kIn hs).here ?_)))
  refine wpAny_holding (wpAny_bind ((PySem.W.bind_fn I.kIn _ hf).here ?_))
  show wpAny _ _ (if (Value.ref f == Value.none) = true then _ else _) _ _ _
  rw [if_neg (by intro z; cases z)]
  refine wpAny_bind (wpAny_mono (wpAny_call (SlX.run_at (us := [.ref a, v]) (ws := [.ref a, x]) F hr I.env0 hx I (.cons rfl (.cons rx .nil)) q)) (fun w s' z => ?_) fun _ _ x => x)
  obtain ⟨z', H', I', rz, b, eb, qz⟩ := z
  subst eb
  cases (show w = Value.bool b from rz)
  exact wpAny_pure (wpAny_truthy_bool (qz s' I'))
theorem op_inOwn (hs : PySem.W.findIn X.K (.ref C) "__contains__" = some (some (.ref f))) (hf : PySem.W.typeIn X.K (.ref f) = some (.type "function")) (F : FnR X.prog X.w X.K X.mg X.base CX k f sp) (hr : Room k X.A) (hx : Passes CX X E)
    (mono : ∀ {vs H Q Q'}, (∀ z H', Q z H' → Q' z H') → sp vs H Q E → sp vs H Q' E) : OpR X (compareOp .In) (rInOwn C sp E false) := by
  intro pins s σ H x y v u Q I rx ry h
  obtain ⟨a, dx, fs, rfl, ha, q⟩ := h
  cases (show u = Value.ref a from ry)
  refine wpAny_bind (in_own hs hf F hr hx I rx ha (mono (fun z H' ⟨b, eb, qb⟩ => ?_) q))
  exact ⟨b, eb, fun s' I' => wpAny_pure ⟨.bl b, H', I', rfl, qb⟩⟩
theorem op_notInOwn (hs : PySem.W.findIn X.K (.ref C) "__contains__" = some (some (.ref f))) (hf : PySem.W.typeIn X.K (.ref f) = some (.type "function")) (F : FnR X.prog X.w X.K X.mg X.base CX k f sp) (hr : Room k X.A) (hx : Passes CX X E)
    (mono : ∀ {vs H Q Q'}, (∀ z H', Q z H' → Q' z H') → sp vs H Q E → sp vs H Q' E) : OpR X (compareOp .NotIn) (rInOwn C sp E true) := by
  intro pins s σ H x y v u Q I rx ry h
  obtain ⟨a, dx, fs, rfl, ha, q⟩ := h
  cases (show u = Value.ref a from ry)
  refine wpAny_bind (in_own hs hf F hr hx I rx ha (mono (fun z H' ⟨b, eb, qb⟩ => ?_) q))
  exact ⟨b, eb, fun s' I' => wpAny_pure ⟨.bl (!b), H', I', rfl, qb⟩⟩
end
end Vm
/-! t != u of two tuples whose items are equal by their own == -/
namespace GQ
open PySem PySem.SeqAt
open AutoSeq1 (wpAny_loadPart')
open MeetsSeq MeetsSeq2 MeetsSeq3 SeqRoads2
section
variable {prog : Program} {w : World} {A : Around} {R : Result → Shared → Prop}
theorem tuple_unequal_not (pa qa : Addr) (us zs : Array Value) (cu cz : Nat) (du dz : Option Addr) (su sz : Array (Option Value)) (same : us.size = zs.size) (J : Nat → Shared → Prop)
    (each : ∀ i (l1 : i < us.size) (l2 : i < zs.size) t, J i t → wpAny (model prog w) A.in1 (eqBool us[i] zs[i]) (fun r t' => r = true ∧ J (i + 1) t') (fun e t' => R (.error e) t') t)
    (last : ∀ t, J us.size t → R (.ok (.ret (.bool false))) t) {s : Shared} (hp : s.heap.get? pa = some { cls := .type "tuple", dict := du, data := .seq us cu, slots := su }) (hq : s.heap.get? qa = some { cls := .type "tuple", dict := dz, data := .seq zs cz, slots := sz }) (h0 : J 0 s) :
    wpAny (model prog w) A.in1 (Builtin.«tuple.__ne__» ⟨[.ref pa, .ref qa], []⟩) (FinOf prog w A R) (fun e t' => R (.error e) t') s := by
  have known := AutoSeq1.sub_tuple_tuple
  have lenZ : (us.toList.zip zs.toList).length = us.size := by simp [same]
  have start := h0
  obtain ⟨hh, gg, dd, tt, oo⟩ := s
  wp_walk using wpAny_loadPart' hp, wpAny_loadPart' hq, wpAny_forIn_list _ (fun left c t' => c.1 = none ∧ ∃ i, left = (us.toList.zip zs.toList).drop i ∧ i ≤ us.size ∧ J i t') _
  case turn =>
    rintro ⟨y, x⟩ left c t' ⟨ec, i, el, li, ji⟩
    have lt : i < (us.toList.zip zs.toList).length := by
      rcases Nat.lt_or_ge i (us.toList.zip zs.toList).length with l | l
      · exact l
      · rw [List.drop_of_length_le l] at el
        cases el
    have lu : i < us.size := lenZ ▸ lt
    have lz : i < zs.size := same ▸ lu
    rw [List.drop_eq_getElem_cons lt] at el
    injection el with epair erest
    have ey : y = us[i] := by
      have := congrArg Prod.fst epair
      simpa using this
    have ex : x = zs[i] := by
      have := congrArg Prod.snd epair
      simpa using this
    subst ey ex
    refine wpAny_bind (wpAny_mono (each i lu lz t' ji) (fun r t2 q2 => ?_) fun _ _ e => e)
    obtain ⟨er, j2⟩ := q2
    subst er
    wp_walk
    exact ⟨rfl, i + 1, erest, lu, j2⟩
  case fin =>
    rintro ⟨c1, c2⟩ t' ⟨ec, i, el, li, ji⟩
    simp only at ec
    subst ec
    have all : us.size ≤ i := by
      rcases Nat.lt_or_ge i (us.toList.zip zs.toList).length with l | l
      · rw [List.drop_eq_getElem_cons l] at el
        cases el
      · exact lenZ ▸ l
    have ei : i = us.size := by omega
    have done : R (.ok (.ret (.bool false))) t' := last t' (ei ▸ ji)
    wp_walk
    simpa [Builtin.Tuple.tupleCompareSizes, same] using done
  case h =>
    exact ⟨rfl, 0, rfl, Nat.zero_le _, start⟩
end
section
variable {prog : Program} {w : World} {A : Around} {E : Value → Shared → Prop} {s : Shared}
theorem rich_tuple_not {pa qa : Addr} {us zs : Array Value} {Q : Value → Shared → Prop} (same : us.size = zs.size) (room : A.units < cLine) (J : Nat → Shared → Prop) (hp : s.heap.IsTuple pa us) (hq : s.heap.IsTuple qa zs)
    (each : ∀ i (l1 : i < us.size) (l2 : i < zs.size) t, J i t → wpAny (model prog w) A.in1 (eqBool us[i] zs[i]) (fun r t' => r = true ∧ J (i + 1) t') E t)
    (last : ∀ t, J us.size t → Q (.bool false) t) (h0 : J 0 s) : wpAny (model prog w) A (richCompare .NotEq (.ref pa) (.ref qa)) Q E s := by
  obtain ⟨⟨cu, du, au, su⟩, op, ep, nu, gu⟩ := id hp
  obtain ⟨⟨cz, dz, az, sz⟩, oq, eq, nz, gz⟩ := id hq
  simp only at ep gu eq gz
  subst ep gu eq gz
  refine wpAny_richCompare_same_room (op := .NotEq) ⟨_, op, rfl⟩ ⟨_, oq, rfl⟩ F.slot_tuple_ne (call_here F.slot_tuple_ne ⟨_, op, rfl⟩ F.entry_tuple_ne (F.args_tuple_ne_2 _ _) ?_) room
  exact tuple_unequal_not (R := wants (fun v t' => v ≠ .notImplemented ∧ Q v t') E) pa qa us zs nu nz du dz su sz same J each (fun t q => ⟨(fun x => nomatch x), last t q⟩) op oq h0
end
end GQ
namespace Vm
open PySem PySem.Spec PyProof.Rows L2
section
variable {X : Cx} {n : Nat} {D : Eqv}
/-- t != u: the tuples' items are equal -/
def rNeTup (K : PySem.W.Frag) (D : Eqv) : R2 := fun x y H Q => DTup K D x y H ∧ ∀ H', Ext H H' → Q (.bl false) H'
theorem op_neTup (mono : Mon D) (h : EqG X n D) (hr : Room (n + 1) X.A) : OpR X (compareOp .NotEq) (rNeTup X.K D) := by
  intro pins s σ H x y v u Q I rx ry hq
  obtain ⟨⟨a, b, xs, ys, rfl, rfl, ha, hb, p⟩, q⟩ := hq
  cases (show v = Value.ref a from rx)
  cases (show u = Value.ref b from ry)
  obtain ⟨is, r, e, z⟩ := I.tuple ha
  obtain ⟨is2, r2, e2, z2⟩ := I.tuple hb
  have same : is.toArray.size = is2.toArray.size := by
    rw [List.size_toArray, List.size_toArray, ← r.length, ← r2.length]
    exact p.1
  show wpAny (model X.prog X.w) X.A (richCompare .NotEq (.ref a) (.ref b)) (EP X pins σ Q) X.xe s
  refine GQ.rich_tuple_not same hr.units0 (fun _ t => LoopI X pins σ H t) e e2 (fun i l1 l2 t l => turnG mono h (sb := ⟨hr, rfl⟩) p r r2 i l1 l2 t l) (fun t l => ?_) ⟨H, I, Ext.rfl'⟩
  obtain ⟨H', I', e'⟩ := l
  exact ⟨.bl false, H', I', rfl, q H' e'⟩
end
end Vm
namespace Vm
open PySem L2
/-- the texts ss, zs are the same -/
def sameSS : List Str → List Str → Bool
  | [], [] => true
  | x :: r, z :: s => x == z && sameSS r s
  | _, _ => false
theorem sameSS_eq : ∀ ss zs : List Str, sameSS ss zs = decide (ss = zs)
  | [], [] => rfl
  | [], z :: s => rfl
  | x :: r, [] => rfl
  | x :: r, z :: s => by
    show (x == z && sameSS r s) = _
    rw [sameSS_eq r s]
    by_cases h : x = z
    · subst h
      rw [beq_self_eq_true, Bool.true_and]
      by_cases h2 : r = s
      · rw [decide_eq_true h2, decide_eq_true (by rw [h2])]
      · rw [decide_eq_false h2, decide_eq_false fun q => h2 (List.cons.inj q).2]
    · rw [beq_eq_false_iff_ne.mpr h, Bool.false_and, decide_eq_false fun q => h (List.cons.inj q).1]
theorem strs_data : ∀ ss : List Str, sameS (ss.map Tr.str) = sameSS ss
  | [] => by
    funext zs
    cases zs <;> rfl
  | x :: r => by
    funext zs
    cases zs with
    | nil => rfl
    | cons z s =>
      show (isS z (.str x) && sameS (r.map Tr.str) s) = (x == z && sameSS r s)
      rw [strs_data r]
      rfl
section
variable {X : Cx}
/-- two tuples of texts -/
def rEqSS (K : PySem.W.Frag) : R2 := fun x y H Q => ∃ (p q : Addr) (ss zs : List Str), x = .ref p ∧ y = .ref q ∧ SqT K H p (ss.map V.str) ∧ SqT K H q (zs.map V.str) ∧ Q (.bl (decide (ss = zs))) H
theorem op_eqSS (hu : X.A.units + 1 < cLine) : OpR X (compareOp .Eq) (rEqSS X.K) := by
  intro pins s σ H x y v u Q I rx ry h
  obtain ⟨p, q, ss, zs, rfl, rfl, hp, hq, k⟩ := h
  cases rx
  cases ry
  obtain ⟨its, r, pl, _⟩ := I.tuple hp
  obtain ⟨its2, r2, pl2, _⟩ := I.tuple hq
  have l1 : its.length = ss.length := by rw [← r.length, List.length_map]
  have l2 : its2.length = zs.length := by rw [← r2.length, List.length_map]
  refine SeqAt.eq_tupleAt (e := atS (ss.map Tr.str) zs) pl pl2 (by omega) (fun j h1 h2 => ?_) ⟨.bl _, H, I, rfl, ?_⟩
  · have h1' : j < its.length := by simpa using h1
    have h2' : j < its2.length := by simpa using h2
    have j1 : j < ss.length := by omega
    have j2 : j < zs.length := by omega
    obtain ⟨u, a1, a2⟩ := r.get (show (ss.map V.str)[j]? = some (V.str ss[j]) by rw [List.getElem?_map, List.getElem?_eq_getElem j1]; rfl)
    obtain ⟨u2, b1, b2⟩ := r2.get (show (zs.map V.str)[j]? = some (V.str zs[j]) by rw [List.getElem?_map, List.getElem?_eq_getElem j2]; rfl)
    obtain ⟨k1, rfl⟩ := a2
    obtain ⟨k2, rfl⟩ := b2
    have c1 : its.toArray[j] = Value.str ss[j] k1 := by
      have := List.getElem?_eq_getElem h1'
      rw [a1] at this
      simpa using (Option.some.inj this).symm
    have c2 : its2.toArray[j] = Value.str zs[j] k2 := by
      have := List.getElem?_eq_getElem h2'
      rw [b1] at this
      simpa using (Option.some.inj this).symm
    have e : atS (ss.map Tr.str) zs j = (ss[j] == zs[j]) := by
      unfold atS
      rw [List.getElem?_map, List.getElem?_eq_getElem j1, List.getElem?_eq_getElem j2]
      rfl
    rw [c1, c2, e]
    exact SeqAt.EqAt.str_str _ k1 _ k2
  · have e : ((List.range (min its.toArray.size its2.toArray.size)).all (atS (ss.map Tr.str) zs) && its.toArray.size == its2.toArray.size) = decide (ss = zs) := by
      rw [← sameSS_eq, ← strs_data, ← all_atS, List.size_toArray, List.size_toArray, l1, l2, List.length_map]
    rw [e]
    exact k
end
/-- two tables are equal -/
def eqTb (nm : Str) (ss zs ks : List Str) (nm' : Str) (ss' zs' ks' : List Str) : Bool := decide (nm = nm') && (decide (ss = ss') && (decide (zs = zs') && decide (ks = ks')))
def spEqT (K : PySem.W.Frag) (C : Addr) : Sp := fun vs H Q _ => ∃ (a : Addr) (y : V) (nm : Str) (ss zs ks : List Str), vs = [.ref a, y] ∧ Tb K H C a nm ss zs ks ∧
  ((∃ (b : Addr) (nm' : Str) (ss' zs' ks' : List Str), y = .ref b ∧ Tb K H C b nm' ss' zs' ks' ∧ ∀ H', Same H H' → Q (.bl (eqTb nm ss zs ks nm' ss' zs' ks')) H') ∨
    ∃ (t : Tr) (n : Nat) (bs : List Addr), Dt K H y t n bs ∧ ∀ H', Same H H' → Q (.bl false) H')
end Vm
/-! Store.read -/
namespace Vm
open PySem PySem.Spec PyProof.Rows L2 TL StX
def tMethSA (K : PySem.W.Frag) (C : Addr) (m : Str) (g : Addr) (sp : Sp) (E : XK) (ta te : TE) : TE := fun σ H Q => ta σ H fun x H1 => ∃ a dx fs, x = .ref a ∧ H1 a = some (.ins C dx fs) ∧ fs.lookup m = none ∧
  ∀ q, H1 q = none → te σ (upd H1 q (.met g a)) fun y H2 => ∃ b vs, y = .ref b ∧ (SqT K H2 b vs ∨ SqL K H2 b vs) ∧ H2 q = some (.met g a) ∧ sp (.ref a :: vs) H2 Q E
theorem pe_methSA {X : Cx} {CX : CXT} {k : Nat} {C g : Addr} {m : Str} {sp : Sp} {E : XK} {o e : Expr} {ta te : TE} {p apos pos : Pos} (he : PE X o ta) (c : Cls X.K C) (b : BMeth X.K C m g) (F : FnR X.prog X.w X.K X.mg X.base CX k g sp) (hr : Room k X.A)
    (hx : Passes CX X E) (ha : PE X e te) (hbase : attributeBase o m X.env (eval o X.env) = eval o X.env := by rfl) : PE X (.Call (.Attribute o m apos) [.Starred e p] [] pos) (tMethSA X.K C m g sp E ta te) := by
  refine ⟨fun pins s σ H Q I h => ?_⟩
  refine starcall_of hbase (thn (he.run pins s σ H _ I h) fun u s1 ⟨x, H1, I1, rx, a, dx, fs, ex, ea, l, q⟩ => ?_)
  subst ex
  obtain rfl : u = Value.ref a := rx
  refine getbound_ok I1 ea c b l fun q1 s2 hq1 I2 => ?_
  refine PySem.W.ks_call (P := PySem.W.MethP X.K q1 g (.ref a)) rfl (PySem.W.keeps_M b.fi) (PySem.W.ks_lone ?_)
  refine thn (ha.run pins s2 σ _ _ I2 (q q1 hq1)) fun v s3 ⟨y, H2, I3, ry, t, vs, ey, ht, hm, hsp⟩ => ?_
  subst ey
  obtain rfl : v = Value.ref t := ry
  refine star_any I3 ht fun us s4 I4 rv => ⟨met_P I4 hm, ?_⟩
  exact wpAny_call (PySem.W.method_call (met_P I4 hm).1 (run_fnR (us := Value.ref a :: us) (vs := V.ref a :: vs) F hr hx I4 (.cons rfl rv) hsp))
def tMakeSA (K : PySem.W.Frag) (C : Addr) (sp : Sp) (E : L2.St → XK) (te : TE) : TE := fun σ H Q => te σ H fun y H1 => ∃ b vs, y = .ref b ∧ (SqT K H1 b vs ∨ SqL K H1 b vs) ∧ ∀ x dx, H1 x = Option.none → H1 dx = Option.none → dx ≠ x →
  sp (V.ref x :: vs) (upd (upd H1 dx (.own x)) x (.ins C dx [])) (fun v H2 => v = .non ∧ Q (.ref x) H2) (E σ)
theorem pe_makeSA {X : Cx} {CX : CXT} {k : Nat} {f C : Addr} {sp : Sp} {E : L2.St → XK} {x : Str} {p sp_ pos : Pos} {e : Expr} {te : TE} (M : Mk X.K C f) (F : FnR X.prog X.w X.K X.mg X.base CX k f sp) (hr : Room (k + 1) X.A) (hg : Gl X x) (hm : X.mg x = some (.ref C)) (hx : ∀ σ, PassesAt CX X σ (E σ)) (he : PE X e te)
    (hdb : (x == ("__debug__" : Str)) = false := by decide) (hst : starEach [.Starred e sp_] X.env = [(true, eval e X.env)] := by rfl) : PE X (.Call (.Name x p) [.Starred e sp_] [] pos) (tMakeSA X.K C sp E te) := by
  refine ⟨fun pins s σ H Q I h => ?_⟩
  refine wpAny_Call_Name_kw (ld_glob I hg hm ?_ hdb)
  refine PySem.W.callWith_S (h₀ := X.base) I.ok.mod.kin M.kp (thn (he.run pins s σ H _ I h) fun v s1 ⟨y, H1, I1, ry, a, xs, ey, hxs, q⟩ => ?_) hst
  subst ey
  obtain rfl : v = Value.ref a := ry
  exact star_any I1 hxs fun us s2 I2 rv => ⟨I2.kIn, run_bornAt M F hr (hx σ) I2 rv q⟩
end Vm
/-! == of tuples of tables, with either answer -/
namespace GQ
open PySem PySem.SeqAt
open AutoSeq1 (wpAny_loadPart')
open MeetsSeq MeetsSeq2 MeetsSeq3 SeqRoads2
section
variable {prog : Program} {w : World} {A : Around} {R : Result → Shared → Prop}
theorem tuple_either (pa qa : Addr) (us zs : Array Value) (cu cz : Nat) (du dz : Option Addr) (su sz : Array (Option Value)) (e : Nat → Bool) (J : Shared → Prop)
    (each : ∀ i (l1 : i < us.size) (l2 : i < zs.size) t, J t → wpAny (model prog w) A.in1 (eqBool us[i] zs[i]) (fun r t' => r = e i ∧ J t') (fun x t' => R (.error x) t') t)
    (last : ∀ t, J t → R (.ok (.ret (.bool ((List.range (min us.size zs.size)).all e && us.size == zs.size)))) t) {s : Shared} (hp : s.heap.get? pa = some { cls := .type "tuple", dict := du, data := .seq us cu, slots := su }) (hq : s.heap.get? qa = some { cls := .type "tuple", dict := dz, data := .seq zs cz, slots := sz }) (h0 : J s) :
    wpAny (model prog w) A.in1 (Builtin.«tuple.__eq__» ⟨[.ref pa, .ref qa], []⟩) (FinOf prog w A R) (fun x t' => R (.error x) t') s := by
  have known := AutoSeq1.sub_tuple_tuple
  have lenZ : (us.toList.zip zs.toList).length = min us.size zs.size := by simp
  have start := h0
  obtain ⟨hh, gg, dd, tt, oo⟩ := s
  wp_walk using wpAny_loadPart' hp, wpAny_loadPart' hq, wpAny_forIn_list _ (fun left c t' => c.1 = none ∧ ∃ i, left = (us.toList.zip zs.toList).drop i ∧ i ≤ min us.size zs.size ∧ J t' ∧ (List.range i).all e = true) _
  case turn =>
    rintro ⟨y, x⟩ left c t' ⟨ec, i, el, li, ji, al⟩
    have lt : i < (us.toList.zip zs.toList).length := by
      rcases Nat.lt_or_ge i (us.toList.zip zs.toList).length with l | l
      · exact l
      · rw [List.drop_of_length_le l] at el
        cases el
    have lm : i < min us.size zs.size := lenZ ▸ lt
    have lu : i < us.size := Nat.lt_of_lt_of_le lm (Nat.min_le_left _ _)
    have lz : i < zs.size := Nat.lt_of_lt_of_le lm (Nat.min_le_right _ _)
    rw [List.drop_eq_getElem_cons lt] at el
    injection el with epair erest
    have ey : y = us[i] := by
      have := congrArg Prod.fst epair
      simpa using this
    have ex : x = zs[i] := by
      have := congrArg Prod.snd epair
      simpa using this
    subst ey ex
    refine wpAny_bind (wpAny_mono (each i lu lz t' ji) (fun r t2 q2 => ?_) fun _ _ e => e)
    obtain ⟨er, j2⟩ := q2
    cases hy : e i with
    | true =>
      rw [hy] at er
      subst er
      have al2 : (List.range (i + 1)).all e = true := by
        rw [List.range_succ, List.all_append, al, List.all_cons, hy]
        rfl
      wp_walk
      exact ⟨rfl, i + 1, erest, lm, j2, al2⟩
    | false =>
      rw [hy] at er
      subst er
      have no : (List.range (min us.size zs.size)).all e = false := by
        rw [List.all_eq_false]
        exact ⟨i, List.mem_range.mpr lm, by rw [hy]; decide⟩
      have done := last t2 j2
      rw [no, Bool.false_and] at done
      wp_walk
      exact done
  case fin =>
    rintro ⟨c1, c2⟩ t' ⟨ec, i, el, li, ji, al⟩
    simp only at ec
    subst ec
    have all : min us.size zs.size ≤ i := by
      rcases Nat.lt_or_ge i (us.toList.zip zs.toList).length with l | l
      · rw [List.drop_eq_getElem_cons l] at el
        cases el
      · exact lenZ ▸ l
    have ei : i = min us.size zs.size := by omega
    rw [ei] at al
    have done := last t' ji
    rw [al, Bool.true_and] at done
    wp_walk
    simpa [Builtin.Tuple.tupleCompareSizes] using done
  case h =>
    exact ⟨rfl, 0, rfl, Nat.zero_le _, start, rfl⟩
end
section
variable {prog : Program} {w : World} {A : Around} {E : Value → Shared → Prop} {s : Shared}
theorem rich_tuple_either {pa qa : Addr} {us zs : Array Value} {Q : Value → Shared → Prop} (room : A.units < cLine) (e : Nat → Bool) (J : Shared → Prop) (hp : s.heap.IsTuple pa us) (hq : s.heap.IsTuple qa zs)
    (each : ∀ i (l1 : i < us.size) (l2 : i < zs.size) t, J t → wpAny (model prog w) A.in1 (eqBool us[i] zs[i]) (fun r t' => r = e i ∧ J t') E t)
    (last : ∀ t, J t → Q (.bool ((List.range (min us.size zs.size)).all e && us.size == zs.size)) t) (h0 : J s) : wpAny (model prog w) A (richCompare .Eq (.ref pa) (.ref qa)) Q E s := by
  obtain ⟨⟨cu, du, au, su⟩, op, ep, nu, gu⟩ := id hp
  obtain ⟨⟨cz, dz, az, sz⟩, oq, eq, nz, gz⟩ := id hq
  simp only at ep gu eq gz
  subst ep gu eq gz
  refine wpAny_richCompare_same_room (op := .Eq) ⟨_, op, rfl⟩ ⟨_, oq, rfl⟩ F.slot_tuple_eq (call_here F.slot_tuple_eq ⟨_, op, rfl⟩ F.entry_tuple_eq (F.args_tuple_eq_2 _ _) ?_) room
  exact tuple_either (R := wants (fun v t' => v ≠ .notImplemented ∧ Q v t') E) pa qa us zs nu nz du dz su sz e J each (fun t q => ⟨(fun x => nomatch x), last t q⟩) op oq h0
end
end GQ
namespace Vm
open PySem PySem.Spec PyProof.Rows L2
section
variable {X : Cx} {n : Nat} {f C : Addr} {fd : FuncData} {CX : CXT} {E : XK}
theorem str_maps : ∀ {ss zs : List Str}, ss.map V.str = zs.map V.str → ss = zs
  | [], [], _ => rfl
  | [], _ :: _, e => nomatch e
  | _ :: _, [], e => nomatch e
  | x :: r, y :: s, e => by
    injection e with e1 e2
    injection e1 with e3
    rw [e3, str_maps e2]
def eqTi (t u : Ti) : Bool := eqTb t.nm t.ss t.zs t.ks u.nm u.ss u.zs u.ks
theorem eqTi_iff (t u : Ti) : eqTi t u = true ↔ t = u := by
  unfold eqTi eqTb
  rw [Bool.and_eq_true, Bool.and_eq_true, Bool.and_eq_true, decide_eq_true_eq, decide_eq_true_eq, decide_eq_true_eq, decide_eq_true_eq]
  constructor
  · rintro ⟨a, b, c, d⟩
    cases t
    cases u
    simp only at a b c d
    subst a b c d
    rfl
  · rintro rfl
    exact ⟨rfl, rfl, rfl, rfl⟩
/-- == of two tables, inside a tuple -/
theorem eq_tables (F : FnOk X.prog X.w X.K X.mg X.base CX n f fd ["self", "other"] (spEqT X.K C)) (hs : PySem.W.findIn X.K (.ref C) "__eq__" = some (some (.ref f))) (hf : PySem.W.isFn X.K (.ref f) = true) (hb : Binds X.K fd ["self", "other"] []) (hx : Passes CX X (fun _ _ _ => False))
    {A : Around} {pins : List (Addr × Obj)} {s : Shared} {σ : L2.St} {H : Hp} {x y : V} {t u : Ti} {v1 v2 : Value} (sb : Sub X n A) (I : Inv X pins σ H s) (rx : RelV x v1) (ry : RelV y v2) (h1 : TbAt X.K H C x t) (h2 : TbAt X.K H C y u) :
    wpAny (model X.prog X.w) A (eqBool v1 v2) (fun r s' => r = eqTi t u ∧ ∃ H', Inv X pins σ H' s' ∧ Ext H H') X.xe s := by
  obtain ⟨a, rfl, ha⟩ := h1
  obtain ⟨b, rfl, hb2⟩ := h2
  cases (show v1 = Value.ref a from rx)
  cases (show v2 = Value.ref b from ry)
  obtain ⟨dx, a2, a3, a4, ea, p2, p3, p4⟩ := ha.1
  obtain ⟨dy, b2, b3, b4, eb, q2, q3, q4⟩ := hb2.1
  by_cases hab : a = b
  · subst hab
    refine SeqAt.EqAt.same (A := A) (s := s) (.ref a) X.prog X.w X.xe _ ⟨?_, H, I, Ext.rfl'⟩
    rw [ea] at eb
    injection eb with e1
    injection e1 with e2 e3 e4
    have e5 : flds (.str t.nm) (.ref a2) (.ref a3) (.ref a4) = flds (.str u.nm) (.ref b2) (.ref b3) (.ref b4) := e4
    have e6 : t.nm = u.nm ∧ a2 = b2 ∧ a3 = b3 ∧ a4 = b4 := by
      unfold flds at e5
      simp only [List.cons.injEq, Prod.mk.injEq, V.str.injEq, V.ref.injEq, and_true, true_and] at e5
      exact e5
    obtain ⟨f1, f2, f3, f4⟩ := e6
    subst f2 f3 f4
    have g2 := str_maps (I.tuple_inj p2.sq q2.sq)
    have g3 := str_maps (I.tuple_inj p3.sq q3.sq)
    have g4 := str_maps (I.tuple_inj p4.sq q4.sq)
    refine ((eqTi_iff t u).mpr ?_).symm
    cases t
    cases u
    simp only at f1 g2 g3 g4
    rw [f1, g2, g3, g4]
  · refine GQ.eqBool_refG hab ?_
    obtain ⟨mA, J, _⟩ := ins_get I.hok ea
    obtain ⟨mB, J', _⟩ := ins_get I.hok eb
    obtain ⟨od, J, _⟩ := J.look
    obtain ⟨od', J', _⟩ := J'.look
    obtain ⟨m, hF⟩ := I.fr
    refine PySem.W.cmp_K (op := .Eq) (tb := .ref C) sb.room.units0 hF I.ok.mod.kin J J'.type (by simp [PySem.W.notFirst]) hs hf ?_
    have hsp : spEqT X.K C [.ref a, .ref b] H (fun v H' => v = .bl (eqTi t u) ∧ Ext H H') (fun _ _ _ => False) := ⟨a, .ref b, t.nm, t.ss, t.zs, t.ks, rfl, ha, .inl ⟨b, u.nm, u.ss, u.zs, u.ks, rfl, hb2, fun H' e => ⟨rfl, e⟩⟩⟩
    have e0 : Env0 X.prog X.w X.K X.mg X.base A X.stack s H := by
      have e := I.env0
      exact ⟨by rw [sb.fr]; exact e.frames, e.mod, e.bs, e.bsz, e.funs, e.frf, e.hok, e.bare⟩
    have hl := F.len _ _ _ _ hsp
    have r2 : Vals [V.ref a, V.ref b] [Value.ref a, Value.ref b] := .cons rfl (.cons rfl .nil)
    refine wpAny_call (codeAny_mono (F.run A X.stack s H ⟨[.ref a, .ref b], []⟩ [.ref a, .ref b] [.ref a, .ref b] _ _ sb.room e0 (by
      have := hb s [.ref a, .ref b] I.kIn (by simpa using hl)
      simpa using this) r2 hsp) fun r s' hq => ?_)
    cases r with
    | error e => exact hx pins σ H s e s' I hq
    | ok fl =>
      cases fl with
      | ret w =>
        obtain ⟨z, H', I', rz, ez, ex⟩ := I.after hq
        subst ez
        cases rz
        exact ⟨_, rfl, rfl, H', I', ex⟩
      | next => exact False.elim hq
      | brk => exact False.elim hq
      | cont => exact False.elim hq
/-- == of two tuples of tables -/
def rEqTs (K : PySem.W.Frag) (C : Addr) : R2 := fun x y H Q => ∃ (a b : Addr) (xs ys : List V) (ts us : List Ti), x = .ref a ∧ y = .ref b ∧ SqT K H a xs ∧ SqT K H b ys ∧ TbsAt K H C xs ts ∧ TbsAt K H C ys us ∧ ∀ (c : Bool) H', (c = true ↔ ts = us) → Same H H' → Q (.bl c) H'
theorem op_eqTs (F : FnOk X.prog X.w X.K X.mg X.base CX n f fd ["self", "other"] (spEqT X.K C)) (hs : PySem.W.findIn X.K (.ref C) "__eq__" = some (some (.ref f))) (hf : PySem.W.isFn X.K (.ref f) = true) (hb : Binds X.K fd ["self", "other"] []) (hx : Passes CX X (fun _ _ _ => False)) (hr : Room (n + 1) X.A) :
    OpR X (compareOp .Eq) (rEqTs X.K C) := by
  intro pins s σ H x y v u Q I rx ry hq
  obtain ⟨a, b, xs, ys, ts, us, rfl, rfl, ha, hb2, h1, h2, q⟩ := hq
  cases (show v = Value.ref a from rx)
  cases (show u = Value.ref b from ry)
  obtain ⟨is, r, e, z⟩ := I.tuple ha
  obtain ⟨is2, r2, e2, z2⟩ := I.tuple hb2
  have l1 : is.length = ts.length := by rw [← r.length]; exact h1.length
  have l2 : is2.length = us.length := by rw [← r2.length]; exact h2.length
  show wpAny (model X.prog X.w) X.A (richCompare .Eq (.ref a) (.ref b)) (EP X pins σ Q) X.xe s
  refine GQ.rich_tuple_either hr.units0 (fun i => match ts[i]?, us[i]? with | some t, some w => eqTi t w | _, _ => true) (fun t => LoopI X pins σ H t) e e2 (fun i k1 k2 t l => ?_) (fun t l => ?_) ⟨H, I, Ext.rfl'⟩
  · obtain ⟨H1, I1, e1⟩ := l
    have k1' : i < is.length := by simpa using k1
    have k2' : i < is2.length := by simpa using k2
    have g1 : is[i]? = some is.toArray[i] := by
      rw [List.getElem?_eq_getElem k1'] <;> simp
    have g2 : is2[i]? = some is2.toArray[i] := by
      rw [List.getElem?_eq_getElem k2'] <;> simp
    have m1 : i < xs.length := by rw [r.length]; exact k1'
    have m2 : i < ys.length := by rw [r2.length]; exact k2'
    obtain ⟨u1, hu1, ru1⟩ := r.get (List.getElem?_eq_getElem m1)
    obtain ⟨u2, hu2, ru2⟩ := r2.get (List.getElem?_eq_getElem m2)
    rw [g1] at hu1
    rw [g2] at hu2
    rw [Option.some.inj hu1, Option.some.inj hu2]
    obtain ⟨t1, et1, tb1⟩ := each_get h1 (List.getElem?_eq_getElem m1)
    obtain ⟨t2, et2, tb2⟩ := each_get h2 (List.getElem?_eq_getElem m2)
    rw [et1, et2]
    refine wpAny_mono (eq_tables F hs hf hb hx (Sub.in1 ⟨hr, rfl⟩) I1 ru1 ru2 (tb1.same e1) (tb2.same e1)) (fun r s2 q => ?_) fun _ _ x => x
    obtain ⟨hr', H2, I2, e2'⟩ := q
    exact ⟨hr', H2, I2, e1.trans e2'⟩
  · obtain ⟨H', I', e'⟩ := l
    refine ⟨.bl _, H', I', rfl, q _ H' ?_ e'⟩
    rw [Bool.and_eq_true, List.all_eq_true, beq_iff_eq, List.size_toArray, List.size_toArray, l1, l2]
    constructor
    · rintro ⟨al, le⟩
      refine List.ext_getElem le fun i i1 i2 => ?_
      have := al i (List.mem_range.mpr (by omega))
      rw [List.getElem?_eq_getElem i1, List.getElem?_eq_getElem i2] at this
      exact (eqTi_iff _ _).mp this
    · rintro rfl
      refine ⟨fun i m => ?_, rfl⟩
      cases ts[i]? with
      | none => rfl
      | some t => exact (eqTi_iff t t).mpr rfl
end
end Vm
/-! Store.__len__, Store.tables; rows as data -/
namespace Vm
open PySem PySem.Spec PyProof.Rows L2
def FrzAt (H : Hp) (c : Addr) : Prop := ∃ o u, H c = some (.frz o u)
/-- a list of such -/
theorem lst_dt {K : PySem.W.Frag} {H : Hp} {D : Addr} {vs : List V} {ts : List Tr} {n : Nat} (e : H D = some (.lst vs)) (d : DPs K H (FrzAt H) vs ts n) : ∃ bs, Dt K H (.ref D) (.lst ts) (n + 1) bs := by
  obtain ⟨bs, d, p⟩ := d
  refine ⟨D :: bs, .lst e d fun m => ?_⟩
  obtain ⟨o, u, q⟩ := p D m
  rw [e] at q
  cases q
/-- two tables of the same arguments -/
def SameTb (K : PySem.W.Frag) (CT : Addr) : Addr → Addr → Hp → Prop := fun a b H => ∃ nm ss zs ks, Tb K H CT a nm ss zs ks ∧ Tb K H CT b nm ss zs ks
theorem sameTb_ext {K : PySem.W.Frag} {CT : Addr} : ∀ a b H H', Ext H H' → SameTb K CT a b H → SameTb K CT a b H' := fun a b H H' e ⟨nm, ss, zs, ks, h1, h2⟩ => ⟨nm, ss, zs, ks, h1.same e, h2.same e⟩
end Vm
/-! the law reads: what is found -/
namespace Vm
open PySem PySem.Spec PyProof.Rows L2 TL
/-! what is found -/
/-! as data -/
theorem FrzAt.nl {H H' : Hp} {c : Addr} (k : NL H H') (h : FrzAt H c) : FrzAt H' c := let ⟨o, u, e⟩ := h; ⟨o, u, k _ _ (fun _ q => nomatch q) e⟩
theorem DP.nlF {K : PySem.W.Frag} {H H' : Hp} {v : V} {t : Tr} {n : Nat} (d : DP K H (FrzAt H) v t n) (k : NL H H') : DP K H' (FrzAt H') v t n :=
  (d.keep fun b o ⟨_, _, e⟩ eb => k b o (fun xs q => by
    rw [e] at eb
    rw [← Option.some.inj eb] at q
    cases q) eb).imp fun b z => z.nl k
theorem DPs.nlF {K : PySem.W.Frag} {H H' : Hp} {v : List V} {t : List Tr} {n : Nat} (d : DPs K H (FrzAt H) v t n) (k : NL H H') : DPs K H' (FrzAt H') v t n :=
  (d.keep fun b o ⟨_, _, e⟩ eb => k b o (fun xs q => by
    rw [e] at eb
    rw [← Option.some.inj eb] at q
    cases q) eb).imp fun b z => z.nl k
theorem DP.sameF {K : PySem.W.Frag} {H H' : Hp} {v : V} {t : Tr} {n : Nat} (d : DP K H (FrzAt H) v t n) (k : Same H H') : DP K H' (FrzAt H') v t n := d.nlF (.of_same k)
theorem DPs.sameF {K : PySem.W.Frag} {H H' : Hp} {v : List V} {t : List Tr} {n : Nat} (d : DPs K H (FrzAt H) v t n) (k : Same H H') : DPs K H' (FrzAt H') v t n := d.nlF (.of_same k)
/-- a new tuple of such -/
theorem DPs.tupF {K : PySem.W.Frag} {H : Hp} {vs : List V} {ts : List Tr} {n : Nat} {p : Addr} {o : Obj} (d : DPs K H (FrzAt H) vs ts n) (hp : H p = none) (hd : o.dict = none) : DP K (upd H p (.frz o (.tup vs))) (FrzAt (upd H p (.frz o (.tup vs)))) (.ref p) (.tup ts) (n + 1) := by
  have s : Same H (upd H p (.frz o (.tup vs))) := same_upd hp
  obtain ⟨bs, d, q⟩ := d
  have np : p ∉ bs := fun m => by
    obtain ⟨o, e⟩ := d.there p m
    rw [hp] at e
    cases e
  refine ⟨p :: bs, .tup upd_same hd (d.keep fun b _ o e => s _ _ e) np, fun b m => ?_⟩
  rcases List.mem_cons.mp m with e | m
  · rw [e]
    exact ⟨_, _, upd_same⟩
  · exact (q b m).nl (.of_same s)
/-! what is found, as data to be compared -/
end Vm
/-! set(xs), xs a list of ints -/
namespace Vm
open PySem PySem.Spec PyProof.Rows
section
variable {prog : Program} {w : World} {A : Around} {E : Value → Shared → Prop} {s : Shared}
theorem code_set_led1 (a : Value) {Q₁ : Value → Shared → Prop}
    (h : Q₁ (.ref s.heap.objs.size) { s with heap := s.heap.push { cls := .type "set", dict := none, data := .set #[] 0 (.fresh 0 0 (!w.params.followText "set-order")) } }) :
    codeAny (model prog w) A (.call (.builtin "set.__new__") ⟨[.type "set", a], []⟩) (wants Q₁ E) s := by
  refine codeAny_of_tree ?_
  show wpAny _ A.in1 (do checkBuiltinCall "set.__new__" ⟨[.type "set", a], []⟩; again (.builtin "set.__new__" ⟨[.type "set", a], []⟩)) _ _ s
  refine wpAny_bind (wpAny_of_eq (PySem.F.newCall_set_1 a) (wpAny_pure ⟨plainId_quiet PySem.F.plain_set_new _, codeAny_builtin PySem.F.entry_set_new ?_⟩))
  rw [Around.under_plainId PySem.F.plain_set_new _]
  unfold Builtin.«set.__new__» Builtin.Frozenset.newClass
  have hsub := sub_set_self
  obtain ⟨hp, g, d, tk, os⟩ := s
  dsimp only
  wp_walk
  refine wpAny_askSetting (wpAny_pure ?_)
  dsimp only
  simp only [newObj]
  refine wpAny_bind (wpAny_alloc (wpAny_pure ?_))
  exact wpAny_pure h
end
theorem intsI_at : ∀ {us : List Value} {xs : List Int}, IntsAre us xs → ∀ (i : Nat) (v : Value), us[i]? = some v → ∃ t, v = .int (xs.getD i 0) t
  | _, _, .nil, i, v, h => by simp at h
  | _, _, .cons n t hr, 0, v, h => by simp at h; exact ⟨t, by rw [← h] <;> rfl⟩
  | _, _, .cons n t hr, i + 1, v, h => by
    obtain ⟨t2, e⟩ := intsI_at hr i v (by simpa using h)
    exact ⟨t2, by rw [e]; simp⟩
/-- how many different numbers stand ahead of the place i -/
def manyI (xs : List Int) : Nat → Nat
  | 0 => 0
  | i + 1 => if (xs.take i).any (· == xs.getD i 0) = true then manyI xs i else manyI xs i + 1
theorem manyI_le (xs : List Int) : ∀ i, manyI xs i ≤ i
  | 0 => Nat.le_refl _
  | i + 1 => by
    have h := manyI_le xs i
    unfold manyI
    split <;> omega
def seenI (xs : List Int) (i : Nat) : Int → Bool := fun z => (xs.take i).any (· == z)
theorem seenI_succ (xs : List Int) {i : Nat} (h : i < xs.length) (z : Int) : (seenI xs i z || decide (z = xs.getD i 0)) = seenI xs (i + 1) z := by
  unfold seenI
  have e : xs.getD i 0 = xs[i] := by
    rw [List.getD_eq_getElem?_getD, List.getElem?_eq_getElem h]
    rfl
  rw [List.take_add_one, List.getElem?_eq_getElem h, List.any_append, e]
  congr 1
  by_cases q : z = xs[i]
  · rw [decide_eq_true q, q]
    simp
  · have q2 : (xs[i] == z) = false := beq_eq_false_iff_ne.mpr fun y => q y.symm
    rw [decide_eq_false q]
    simp [q2]
section
variable {prog : Program} {w : World} {A : Around} {R : Result → Shared → Prop} {I : Addr} {fp wr : List Addr} {G : Array GenState → Array GenState → Prop} {n : Nat} {Pv : Nat → Value → Prop} {St : Nat → Shared → Prop}
theorem setI_same {B : Addr} {xs : List Int} {i m : Nat} {h h' : Heap} (q : L2.SetR w h B (seenI xs i) m) (k : ∀ o, h.get? B = some o → h'.get? B = some o) : L2.SetR w h' B (seenI xs i) m :=
  let ⟨o, es, ep, t, ho, rest⟩ := q
  ⟨o, es, ep, t, k o ho, rest⟩
/-- the walk puts every text into the set at B -/
theorem putI_all (W : WalksS prog w A.in1 I fp wr G n Pv St) (B : Addr) (off : B ∉ fp) (xs : List Int) (len : xs.length = n) (few : n < 1000) (vals : ∀ i v, Pv i v → ∃ t, v = .int (xs.getD i 0) t) :
    ∀ (k i : Nat) (s : Shared), n - i = k → i ≤ n → St i s → L2.SetR w s.heap B (seenI xs i) (manyI xs i) →
      (∀ s', Moved (B :: wr) G s s' → L2.SetR w s'.heap B (seenI xs n) (manyI xs n) → R (.ok (.ret .none)) s') → codeAny (model prog w) A (.builtin "set.update.loop" ⟨[.ref B, .ref I], []⟩) R s
  | 0, i, s, hk, hi, at_, q, go => by
    obtain rfl : i = n := by omega
    refine codeAny_builtin PyProof.Rows.F.entry_set_update_loop ?_
    rw [Around.under_plainId PyProof.Rows.F.plain_set_update_loop _]
    show wpAny _ A.in1 (pyNext (.ref I) >>= _) _ _ _
    refine wpAny_bind (W.done s _ _ at_ fun s1 mv => ?_)
    exact wpAny_pure (go s1 (mv.mono fun b hb => List.mem_cons_of_mem _ hb) (setI_same q fun o e => mv.heap B _ (fun z => off (W.sub _ z)) e))
  | k + 1, i, s, hk, hi, at_, q, go => by
    have lt : i < n := by omega
    refine codeAny_builtin PyProof.Rows.F.entry_set_update_loop ?_
    rw [Around.under_plainId PyProof.Rows.F.plain_set_update_loop _]
    show wpAny _ A.in1 (pyNext (.ref I) >>= _) _ _ _
    refine wpAny_bind (W.item i s _ _ lt at_ fun v s1 pv at1 mv => ?_)
    obtain ⟨t, rfl⟩ := vals i v pv
    have q1 := setI_same (h' := s1.heap) q fun o e => mv.heap B _ (fun z => off (W.sub _ z)) e
    show wpAny _ _ (holding [Value.int (xs.getD i 0) t] (setAdd B (.int (xs.getD i 0) t)) >>= _) _ _ _
    refine wpAny_bind (wpAny_holding ?_)
    unfold setAdd
    refine wpAny_holding (wpAny_bind ((intKind prog w).pyHash (intKind_is _ _ (xs.getD i 0) t) ?_))
    have room : manyI xs i + 1 < scanBound := by
      have := manyI_le xs i
      unfold scanBound
      omega
    refine L2.setR_add_hashed (s := { s1 with toks := s1.toks + 1 }) q1 room fun h2 but q2 => ?_
    have q3 : L2.SetR w h2 B (seenI xs (i + 1)) (manyI xs (i + 1)) := by
      have e : (if seenI xs i (xs.getD i 0) = true then manyI xs i else manyI xs i + 1) = manyI xs (i + 1) := rfl
      rw [e] at q2
      exact q2.congr fun z => (seenI_succ xs (by omega) z).symm
    refine wpAny_pure ⟨plainId_quiet PyProof.Rows.F.plain_set_update_loop _, putI_all W B off xs len few vals k (i + 1) _ (by omega) lt ?_ q3 fun s3 mv3 q4 => ?_⟩
    · refine W.frame _ s1 _ _ at1 (Nat.le_succ _) fun b hb o e => ?_
      rw [but.2 b fun z => off (z ▸ hb)]
      exact e
    · refine go s3 (Moved.trans W.gtrans ((mv.mono fun b hb => List.mem_cons_of_mem _ hb).then_heap (Nat.le_succ _) fun b o hb e => ?_) mv3) q4
      rw [but.2 b fun z => hb (z ▸ List.mem_cons_self)]
      exact e
end
section
variable {prog : Program} {w : World} {A : Around} {E : Value → Shared → Prop} {s : Shared}
abbrev newSetI (w : World) : Obj := { cls := .type "set", dict := none, data := .set #[] 0 (.fresh 0 0 (!w.params.followText "set-order")) }
abbrev ReadyI (prog : Program) (w : World) (s : Shared) (xs : List Int) (t : Shared) : Prop := ∃ h' tk, t = { s with heap := h', toks := tk } ∧ L2.SetR w h' s.heap.objs.size (seenI xs xs.length) (manyI xs xs.length) ∧
  ∀ b o, b < s.heap.objs.size → s.heap.get? b = some o → h'.get? b = some o
/-- the body of __init__ -/
theorem fillI_set {l : Addr} {items : Array Value} {xs : List Int} {Q : PySem.Fin → Shared → Prop} (hh : A.handled = none) (hl : s.heap.IsList l items) (hi : IntsAre items.toList xs) (few : xs.length < 1000)
    (go : ∀ t, ReadyI prog w s xs t → Q (.done (.ret .none)) t) : wpAny (model prog w) A (Builtin.«set.__init__» ⟨[.ref s.heap.objs.size, .ref l], []⟩) Q E { s with heap := s.heap.push (newSetI w) } := by
  have at_l : l < s.heap.objs.size := let ⟨_, e, _⟩ := hl; Heap.lt_size e
  obtain ⟨⟨c, dd, dt, sl⟩, e, hc, m, hd⟩ := hl
  dsimp only at hc hd
  subst hc hd
  have e1 : (s.heap.push (newSetI w)).get? l = some { cls := .type "list", dict := dd, data := .seq items m, slots := sl } := Heap.get?_push_of_some _ e
  have eB : (s.heap.push (newSetI w)).get? s.heap.objs.size = some (newSetI w) := Heap.get?_push_size _ rfl
  have tup : (s.heap.push (newSetI w)).IsList l items := ⟨_, e1, rfl, m, rfl⟩
  have no1 := PySem.F.sub_list_set
  have no2 := PySem.F.sub_list_frozenset
  have no3 : (Value.type "list" == Value.type "dict") = false := by decide
  unfold Builtin.«set.__init__» noKeywords Builtin.Frozenset.updateFrom
  generalize hIt : pyIter = It
  wp_walk
  subst hIt
  refine wpAny_pyIter_list tup (wpAny_bind (wpAny_runValue ?_))
  have sz : (s.heap.push (newSetI w)).objs.size = s.heap.objs.size + 1 := Heap.size_push _ _
  have apart : l ≠ (s.heap.push (newSetI w)).objs.size := by
    rw [sz]
    exact Nat.ne_of_lt (Nat.lt_succ_of_lt at_l)
  have out : s.heap.objs.size ∉ [(s.heap.push (newSetI w)).objs.size, l] := by
    rw [sz]
    intro z
    rcases List.mem_cons.mp z with z | z
    · exact absurd z (Nat.ne_of_lt (Nat.lt_succ_self _))
    · exact absurd (List.mem_singleton.mp z) (Nat.ne_of_gt at_l)
  have len : xs.length = items.size := by rw [← IntsAre.length hi, Array.length_toList]
  have calm : A.in1.handled = none := by simp [hh]
  refine putI_all ((Walks.list calm _ l apart items).toS) s.heap.objs.size out xs len (by omega) (fun i v hv => intsI_at hi i v (by rw [Array.getElem?_toList]; exact hv)) (items.size - 0) 0 _ (by omega) (Nat.zero_le _)
    ?here ?first ?last
  case here => exact ⟨⟨_, Heap.get?_push_size _ rfl, rfl, rfl⟩, tup.push _⟩
  case first => exact ((L2.setR_fresh w).congr (fun _ => rfl)).at fun o e => Heap.get?_push_of_some _ e
  case last =>
    intro t mv q
    obtain ⟨h', g', d', tk', os'⟩ := t
    obtain rfl : g' = s.gens := mv.gens
    obtain rfl : d' = s.drawn := mv.drawn
    obtain rfl : os' = s.os := mv.os
    show wpAny _ _ _ _ _ _
    refine wpAny_pure ?_
    show wpAny _ _ (ret Value.none) _ _ _
    refine wpAny_pure (go _ ⟨h', tk', rfl, by rw [len]; exact q, fun b o lt eb => ?_⟩)
    refine mv.heap b o (fun z => ?_) (Heap.get?_push_of_some _ (Heap.get?_push_of_some _ eb))
    rcases List.mem_cons.mp z with z | z
    · exact absurd z (Nat.ne_of_lt lt)
    · have z2 := List.mem_singleton.mp z
      rw [sz] at z2
      exact absurd z2 (Nat.ne_of_lt (Nat.lt_succ_of_lt lt))
end
section
variable {prog : Program} {w : World} {A : Around} {E : Value → Shared → Prop} {s : Shared}
/-- set(t) -/
theorem set_listI {l : Addr} {items : Array Value} {xs : List Int} {Q : Value → Shared → Prop} (hh : A.handled = none) (hl : s.heap.IsList l items) (hi : IntsAre items.toList xs) (few : xs.length < 1000)
    (go : ∀ t, ReadyI prog w s xs t → Q (.ref s.heap.objs.size) t) : wpAny (model prog w) A (call (.type "set") [.ref l]) Q E s := by
  have F0 := PySem.F.called_set
  obtain ⟨c, tl, order⟩ := F0.mro
  have g1 := F0.made
  have g2 := F0.sub
  refine wpAny_call (codeAny_of_tree ?_)
  show wpAny _ _ (callAny (.type "set") _) _ _ _
  refine wpAny_pure ⟨Code.quiet_builtin _ (by decide +kernel), codeAny_builtin PySem.F.entry_type_call ?_⟩
  rw [Around.under_plain (weight_type_call_type "set" [.ref l] []) rfl]
  have g3 := F0.notType
  have g4 := F0.canCreate
  have g5 := PySem.F.typeCall_set_1 (.ref l)
  repeat (any_goals (first | assumption | wp_step))
  refine codeAny_mono (code_set_led1 (.ref l) (E := E) (Q₁ := fun made s₁ => made = .ref s.heap.objs.size ∧ s₁ = { s with heap := s.heap.push (newSetI w) }) ⟨rfl, rfl⟩) fun r s₁ hr => ?_
  match r, hr with
  | .error e, hr => exact hr
  | .ok (.ret made), hr =>
    obtain ⟨rfl, rfl⟩ := hr
    have eB : (s.heap.push (newSetI w)).get? s.heap.objs.size = some (newSetI w) := Heap.get?_push_size _ rfl
    have ty : Shared.TypeIs { s with heap := s.heap.push (newSetI w) } (.ref s.heap.objs.size) "set" := ⟨_, eB, rfl⟩
    have g6 := F0.init.lookup
    have g7 := F0.init.bind (.ref s.heap.objs.size)
    repeat (any_goals (first | assumption | wp_step))
    refine codeAny_mono (codeAny_call_builtin (R := wants (fun r t => r = .none ∧ ReadyI prog w s xs t) E) F0.init.plain PySem.F.entry_set_init (check_set_init_1 ty ?_)) fun r₂ t hr₂ => ?_
    · refine fillI_set (by simp [hh]) hl hi few fun t q => ?_
      exact ⟨rfl, q⟩
    · match r₂, hr₂ with
      | .error e, hr₂ => exact hr₂
      | .ok (.ret r), hr₂ =>
        obtain ⟨rfl, q⟩ := hr₂
        have go' := go _ q
        repeat (any_goals (first | assumption | wp_step))
end
end Vm
/-! sorted(set(xs)), xs a list of ints -/
namespace Vm
open PySem PySem.Spec PyProof.Rows L2
def rSetI (K : PySem.W.Frag) (w : World) : List V → Hp → VK → Prop := fun xs H Q => ∃ (l : Addr) (ns : List Int), xs = [.ref l] ∧ SqL K H l (ns.map V.int) ∧ ns.length < 1000 ∧
  ∀ p, H p = none → Q (.ref p) (upd H p (SetO w p (seenI ns ns.length) (manyI ns ns.length)))
theorem cr_setI {X : Cx} (hc : X.calm = true) : CallR X (.type "set") (rSetI X.K X.w) := by
  intro pins s σ H xs us Q I r h
  obtain ⟨l, ns, rfl, hq, few, k⟩ := h
  rw [Vals.ref1 r]
  obtain ⟨its, rv, pl, _⟩ := I.list hq
  refine set_listI (prog := X.prog) (w := X.w) (I.ok.hd hc) pl.isList (by simpa using intsAre_of rv) few ?_
  rintro t ⟨h', tk, rfl, q, kept⟩
  exact ⟨.ref s.heap.objs.size, upd H s.heap.objs.size (SetO X.w s.heap.objs.size (seenI ns ns.length) (manyI ns ns.length)), I.laid (t' := tk) (fun b u e => kept b u (Heap.lt_size e) e) (Nat.le_refl _) (setO_new q), rfl, k _ (I.hok.fresh (Nat.le_refl _))⟩
end Vm
/-! the program reads: the lines of any text -/
namespace Vm
open PySem PySem.Spec PyProof.Rows L2 TL
/-- a value that is read, and what is found -/
def foundT : Tr → Option Fnd
  | .str x => readP x
  | _ => none
def TextOk : Tr → Prop
  | .str x => TxOk 9999 250 42 x
  | _ => True
theorem ite_else {c1 : Bool} {X A B : Prop} (h : c1 = true → B → X) (tb : B) : if c1 = true then X else (if false = true then A else B) := by
  cases c1 with
  | true => exact iteT (h rfl tb)
  | false => exact iteF (iteF tb)
end Vm
/-! the law reads: a text -/
namespace Vm
open PySem PySem.Spec PyProof.Rows L2 TL
theorem ite_elseH {c1 : Bool} {H : Hp} {X A : Prop} {B : Hp → Prop} (h : c1 = true → (∀ H', Same H H' → B H') → X) (tb : ∀ H', Same H H' → B H') : if c1 = true then X else (if false = true then A else B H) := by
  cases c1 with
  | true => exact iteT (h rfl tb)
  | false => exact iteF (iteF (tb H (Same.refl H)))
end Vm
/-! the law: what Store.read returns, or its error -/
namespace Vm
open PySem PySem.Spec PyProof.Rows L2 TL
/-- a static method called in a try -/
def tSMethS (C : Addr) (sp : Sp) (E : L2.St → XK) (ta : TE) (t : TA) : TE := fun σ H Q => ta σ H fun x H1 => x = .ref C ∧ t σ H1 fun vs H2 => sp vs H2 Q (E σ)
def tSMethKS (C : Addr) (sp : Sp) (gV : List V → List V → List V) (E : L2.St → XK) (ta : TE) (tk : TA) : TE := fun σ H Q => ta σ H fun x H1 => x = .ref C ∧ tk σ H1 fun zs H2 => sp (gV [] zs) H2 Q (E σ)
section
variable {X : Cx} {CX : CXT} {k : Nat} {C p g : Addr} {fd : FuncData} {mc : Value} {sp : Sp} {E : L2.St → XK} {o e : Expr} {es : List Expr} {kws : List Keyword} {m : Str} {pos apos : Pos} {ta : TE} {t tk : TA} {pl : Sem Bool} {ps ks : List Str} {gg : List Value → List Value → List Value} {gV : List V → List V → List V}
theorem pe_smethS (he : PE X o ta) (c : SMet X.K C mc m p g) (F : FnOk X.prog X.w X.K X.mg X.base CX k g fd ps sp) (hr : Room k X.A) (hb : Binds X.K fd ps []) (hx : ∀ σ, PassesAt CX X σ (E σ)) (ha : PA X (e :: es) t)
    (hst : starEach (e :: es) X.env = (false, eval e X.env) :: starEach es X.env := by rfl) (hpl : (backTo pos (starEach es X.env)).any (·.1) = false := by rfl)
    (ht : eval (.Call (.Attribute o m apos) (e :: es) [] pos) X.env = (do
      let ov ← eval o X.env
      standAt apos.atName
      let (f, first) ← holding [ov] (getMethod ov m pl)
      callWith pos f first (backTo pos (starEach (e :: es) X.env)) (backToKw pos (keywordEach [] X.env))) := by rfl) :
    PE X (.Call (.Attribute o m apos) (e :: es) [] pos) (tSMethS C sp E ta t) := by
  refine ⟨fun pins s σ H Q I h => ?_⟩
  refine PySem.W.methodCall_KW (pl := pl) (thn (he.run pins s σ H _ I h) fun u s1 ⟨x, H1, I1, rx, ex, q⟩ => ?_) ht
  subst ex
  obtain rfl : u = Value.ref C := rx
  refine getmethsm_ok I1 c fun s2 I2 => ?_
  refine PySem.W.callWith_K (first := []) (h₀ := X.base) I.ok.mod.kin c.kp (thn (ha.run pos pins s2 σ H1 _ I2 q) fun us s3 ⟨vs, H2, I3, r, q2⟩ => ⟨I3.kIn, ?_⟩) hst hpl
  exact run_fnS (us := us) (vs := vs) F hr hb (hx σ) I3 r q2
theorem run_fnkS {us ws : List Value} {vs zs : List V} {pins : List (Addr × Obj)} {σ : L2.St} {H : Hp} {s : Shared} {Q : VK} (F : FnOk X.prog X.w X.K X.mg X.base CX k g fd ps sp) (hr : Room k X.A) (hb : KBinds X.K fd ps ks gg gV) (hx : PassesAt CX X σ (E σ))
    (I : Inv X pins σ H s) (r : Vals vs us) (rz : Vals zs ws) (h : sp (gV vs zs) H Q (E σ)) : wpAny (model X.prog X.w) X.A (call (.ref g) us (ks.zip ws)) (EP X pins σ Q) X.xe s := by
  have r2 := hb.rel r rz
  have hl : (gg us ws).length = ps.length := by rw [← r2.length]; exact F.len _ _ _ _ h
  refine wpAny_call (codeAny_mono (F.run X.A X.stack s H ⟨us, ks.zip ws⟩ (gg us ws) (gV vs zs) Q (E σ) hr I.env0 (hb.to s us ws I.kIn hl) r2 h) fun r s' hq => ?_)
  cases r with
  | error e => exact hx pins H s e s' I hq
  | ok fl =>
    cases fl with
    | ret u => exact I.after hq
    | next => exact False.elim hq
    | brk => exact False.elim hq
    | cont => exact False.elim hq
theorem pe_smethKS (he : PE X o ta) (c : SMet X.K C mc m p g) (F : FnOk X.prog X.w X.K X.mg X.base CX k g fd ps sp) (hr : Room k X.A) (hb : KBinds X.K fd ps ks gg gV) (hx : ∀ σ, PassesAt CX X σ (E σ)) (hkw : PK X kws tk)
    (hall : (backToKw pos (keywordEach kws X.env)).all (·.1.isSome) = true := by rfl) (hks : (backToKw pos (keywordEach kws X.env)).filterMap (·.1) = ks := by rfl)
    (hpl : ((backTo pos (starEach [] X.env)).any (·.1) || (backToKw pos (keywordEach kws X.env)).any (·.1.isNone)) = false := by rfl)
    (ht : eval (.Call (.Attribute o m apos) [] kws pos) X.env = (do
      let ov ← eval o X.env
      standAt apos.atName
      let (f, first) ← holding [ov] (getMethod ov m pl)
      callWith pos f first (backTo pos (starEach [] X.env)) (backToKw pos (keywordEach kws X.env))) := by rfl) :
    PE X (.Call (.Attribute o m apos) [] kws pos) (tSMethKS C sp gV E ta tk) := by
  refine ⟨fun pins s σ H Q I h => ?_⟩
  refine PySem.W.methodCall_KW (pl := pl) (thn (he.run pins s σ H _ I h) fun u s1 ⟨x, H1, I1, rx, ex, q⟩ => ?_) ht
  subst ex
  obtain rfl : u = Value.ref C := rx
  refine getmethsm_ok I1 c fun s2 I2 => ?_
  refine PySem.W.callWith_KW0 (first := []) (h₀ := X.base) I.ok.mod.kin c.kp hall (thn (hkw.run pos pins s2 σ H1 _ I2 q) fun ws s3 ⟨zs, H2, I3, rz, q2⟩ => ⟨I3.kIn, ?_⟩) hpl
  rw [hks]
  exact run_fnkS (us := []) (vs := []) F hr hb (hx σ) I3 .nil rz q2
end
/-- the suite's facts of what was caught -/
theorem pss_cond {X : Cx} {b : List Stmt} {c : Prop} {t : TS} (k : c → PSs X b t) : PSs X b (fun D σ H => c ∧ t D σ H) := ⟨fun pins s σ H D I h => (k h.1).run pins s σ H D I h.2⟩
theorem map_at' {α β : Type} {f : α → β} {xs : List α} {i : Nat} {y : β} (h : (xs.map f)[i]? = some y) : ∃ x, xs[i]? = some x ∧ f x = y := by
  rw [List.getElem?_map] at h
  cases e : xs[i]? with
  | none => rw [e] at h; cases h
  | some x => rw [e] at h; exact ⟨x, rfl, Option.some.inj h⟩
end Vm
/-! the text of a question, purely: words, entries -/
namespace Vm
open PySem PySem.Spec PyProof.Rows L2 TL PySem.StrLaws PySem.Builtin.Str
/-- does the word end its entry with a comma -/
def isCm (x : Str) : Bool := Txt.endswith x ","
def cutCm (x : Str) : Str := Txt.removesuffix x ","
theorem sub_last {x y : Str} (hy : tl y ≠ []) : (decide (0 + y.length ≤ x.length) && subAt x y (x.length - y.length)) = decide ((tl x).drop (x.length - y.length) = tl y) := by
  have e := at_iff (x := x) hy (x.length - y.length)
  have ly : 0 < y.length := by
    rw [len_tl]
    exact List.length_pos_iff.mpr hy
  rw [Bool.eq_iff_iff, decide_eq_true_iff]
  constructor
  · intro h
    rw [Bool.and_eq_true, decide_eq_true_eq] at h
    have z := e.mp ⟨by omega, h.2⟩
    have z2 := beq_iff_eq.mp z
    rw [List.take_of_length_le] at z2
    · exact z2
    · rw [List.length_drop, ← len_tl, ← len_tl]
      omega
  · intro h
    have le : y.length ≤ x.length := by
      have l := congrArg List.length h
      rw [List.length_drop, ← len_tl, ← len_tl] at l
      omega
    have z : pre (tl y) ((tl x).drop (x.length - y.length)) = true := by
      rw [h]
      exact beq_iff_eq.mpr (List.take_length)
    have w := e.mpr z
    rw [Bool.and_eq_true, decide_eq_true_eq]
    exact ⟨by omega, w.2⟩
theorem cm_tl2 : tl ("," : Str) = [44] := by decide +kernel
theorem cm_len : ("," : Str).length = 1 := by decide +kernel
theorem isCm_tl (x : Str) : isCm x = decide ((tl x).drop (x.length - 1) = [44]) := by
  have h := ends_fact (x := x) (y := ",") (y' := ",") (b := isCm x) rfl rfl
  rw [sub_last (by rw [cm_tl2]; decide), cm_tl2, cm_len] at h
  exact h.symm
theorem cutCm_tl {x : Str} (h : isCm x = true) : tl (cutCm x) = (tl x).take (x.length - 1) := by
  have e := ends_fact (x := x) (y := ",") (y' := ",") (b := isCm x) rfl rfl
  unfold cutCm
  rw [PySem.StrLaws.removesuffix_eq, e, h, if_pos rfl, cm_len]
  show ((tl x).drop 0).take (x.length - 1 - 0) = _
  rw [List.drop_zero, Nat.sub_zero]
theorem cutCm_no {x : Str} (h : isCm x = false) : cutCm x = x := by
  have e := ends_fact (x := x) (y := ",") (y' := ",") (b := isCm x) rfl rfl
  unfold cutCm
  rw [PySem.StrLaws.removesuffix_eq, e, h, if_neg (by decide)]
theorem cutCm_sub (x : Str) : tl (cutCm x) <:+: tl x := by
  cases h : isCm x with
  | true =>
    rw [cutCm_tl h]
    exact (List.take_prefix _ _).isInfix
  | false =>
    rw [cutCm_no h]
    exact List.infix_rfl
theorem sIx_neg1 (n d : Nat) : HT.sIx n d (some (-1)) = n - 1 := by
  show (if (-1 : Int) < 0 then ((-1 : Int) + (n : Int)).toNat else min (-1 : Int).toNat n) = n - 1
  rw [if_pos (by decide)]
  omega
theorem tl_last (x : Str) : tl (cutS x (some (-1)) none) = (tl x).drop (x.length - 1) := by
  have e : HT.sIx x.length 0 (some (-1)) = x.length - 1 := sIx_neg1 x.length 0
  show ((tl x).drop (HT.sIx x.length 0 (some (-1)))).take (x.length - HT.sIx x.length 0 (some (-1))) = _
  rw [e, List.take_of_length_le]
  rw [List.length_drop, len_tl]
  omega
theorem tl_butlast (x : Str) : tl (cutS x none (some (-1))) = (tl x).take (x.length - 1) := by
  have e : HT.sIx x.length x.length (some (-1)) = x.length - 1 := sIx_neg1 x.length x.length
  show ((tl x).drop 0).take (HT.sIx x.length x.length (some (-1)) - 0) = _
  rw [e, List.drop_zero, Nat.sub_zero]
/-- the law's comma is the program's -/
theorem isCm_law (x : Str) : decide (cutS x (some (-1)) none = ",") = isCm x := by
  rw [isCm_tl, Bool.eq_iff_iff, decide_eq_true_iff, decide_eq_true_iff, ← tl_last]
  exact ⟨fun h => by rw [h, cm_tl2], fun h => ext_tl (h.trans cm_tl2.symm)⟩
theorem cutCm_law {x : Str} (h : isCm x = true) : cutS x none (some (-1)) = cutCm x := ext_tl (by rw [tl_butlast, cutCm_tl h])
/-! entries -/
/-- an entry without its comma -/
def entW (t : List Str) : List Str := t.dropLast ++ [cutCm (t.getLastD "")]
theorem entW_no {t : List Str} (ne : t ≠ []) (h : isCm (t.getLastD "") = false) : entW t = t := by
  unfold entW
  rw [cutCm_no h, List.getLastD_eq_getLast?, List.getLast?_eq_some_getLast ne]
  exact List.dropLast_concat_getLast ne
theorem entW_len {t : List Str} (ne : t ≠ []) : (entW t).length = t.length := by
  unfold entW
  rw [List.length_append, List.length_dropLast]
  have := List.length_pos_iff.mpr ne
  show t.length - 1 + 1 = _
  omega
/-- entries of n words each from the place a on, read by f; k bounds the turns -/
def entsK {α : Type} (f : List Str → Option α) (ws : List Str) (n : Nat) : Nat → Nat → Option (List α × Nat)
  | 0, _ => none
  | k + 1, a =>
    let t := (ws.drop a).take n
    if t.length < n then none else
      match f (entW t) with
      | none => none
      | some v => if isCm (t.getLastD "") = true then
          match entsK f ws n k (a + n) with
          | none => none
          | some (vs, b) => some (v :: vs, b)
        else some ([v], a + n)
theorem entsK_more {α : Type} (f : List Str → Option α) (ws : List Str) {n : Nat} (hn : 0 < n) : ∀ (k j a : Nat), ws.length - a < k → ws.length - a < j → entsK f ws n k a = entsK f ws n j a
  | 0, _, _, h, _ => absurd h (by omega)
  | _, 0, _, _, h => absurd h (by omega)
  | k + 1, j + 1, a, h1, h2 => by
    unfold entsK
    dsimp only
    by_cases z : ((ws.drop a).take n).length < n
    · rw [if_pos z, if_pos z]
    · rw [if_neg z, if_neg z]
      rw [List.length_take, List.length_drop] at z
      rw [entsK_more f ws hn k j (a + n) (by omega) (by omega)]
def ents {α : Type} (f : List Str → Option α) (ws : List Str) (n a : Nat) : Option (List α × Nat) := entsK f ws n (ws.length + 1) a
theorem ents_step {α : Type} (f : List Str → Option α) (ws : List Str) {n : Nat} (hn : 0 < n) (a : Nat) : ents f ws n a =
    if ((ws.drop a).take n).length < n then none else
      match f (entW ((ws.drop a).take n)) with
      | none => none
      | some v => if isCm (((ws.drop a).take n).getLastD "") = true then
          match ents f ws n (a + n) with
          | none => none
          | some (vs, b) => some (v :: vs, b)
        else some ([v], a + n) := by
  conv => lhs; unfold ents entsK
  dsimp only
  by_cases z : ((ws.drop a).take n).length < n
  · rw [if_pos z, if_pos z]
  · rw [if_neg z, if_neg z]
    rw [List.length_take, List.length_drop] at z
    unfold ents
    rw [entsK_more f ws hn ws.length (ws.length + 1) (a + n) (by omega) (by omega)]
/-- what the entries are, first, then what they tell -/
theorem ents_map {α : Type} (f : List Str → Option α) (ws : List Str) {n : Nat} (hn : 0 < n) : ∀ (k a : Nat), ws.length - a < k → ents f ws n a =
    match ents some ws n a with
    | none => none
    | some (ts, b) => (ts.mapM f).map fun vs => (vs, b) := by
  intro k
  induction k with
  | zero =>
    intro a h
    exact absurd h (by omega)
  | succ k ih =>
    intro a h
    rw [ents_step f ws hn, ents_step some ws hn]
    by_cases z : ((ws.drop a).take n).length < n
    · rw [if_pos z, if_pos z]
    · rw [if_neg z, if_neg z]
      have z' := z
      rw [List.length_take, List.length_drop] at z'
      generalize (ws.drop a).take n = t
      dsimp only
      cases c : isCm (t.getLastD "") with
      | false =>
        simp only [Bool.false_eq_true, if_false]
        rw [List.mapM_cons, List.mapM_nil]
        cases f (entW t) <;> rfl
      | true =>
        simp only [if_true]
        rw [ih (a + n) (by omega)]
        cases ents some ws n (a + n) with
        | none => cases f (entW t) <;> rfl
        | some p =>
          obtain ⟨ts, b⟩ := p
          dsimp only
          rw [List.mapM_cons]
          cases f (entW t) with
          | none => rfl
          | some v =>
            dsimp only
            cases ts.mapM f <;> rfl
theorem ents_of {α : Type} (f : List Str → Option α) (ws : List Str) {n : Nat} (hn : 0 < n) (a : Nat) : ents f ws n a =
    match ents some ws n a with
    | none => none
    | some (ts, b) => (ts.mapM f).map fun vs => (vs, b) := ents_map f ws hn (ws.length - a + 1) a (by omega)
/-- the entries go on, and stay within the words -/
theorem ents_on {α : Type} {f : List Str → Option α} {ws : List Str} {n : Nat} (hn : 0 < n) : ∀ {k a : Nat} {vs : List α} {b : Nat}, ws.length - a < k → ents f ws n a = some (vs, b) → a + n * vs.length = b ∧ b ≤ ws.length ∧ 0 < vs.length
  | 0, a, vs, b, h, _ => absurd h (by omega)
  | k + 1, a, vs, b, h, e => by
    rw [ents_step f ws hn] at e
    by_cases z : ((ws.drop a).take n).length < n
    · rw [if_pos z] at e
      cases e
    · rw [if_neg z] at e
      rw [List.length_take, List.length_drop] at z
      cases q : f (entW ((ws.drop a).take n)) with
      | none =>
        rw [q] at e
        cases e
      | some v =>
        rw [q] at e
        dsimp only at e
        by_cases c : isCm (((ws.drop a).take n).getLastD "") = true
        · rw [if_pos c] at e
          cases r : ents f ws n (a + n) with
          | none =>
            rw [r] at e
            cases e
          | some p =>
            obtain ⟨us, b'⟩ := p
            rw [r] at e
            have e' := Option.some.inj e
            injection e' with e1 e2
            subst e1 e2
            obtain ⟨i1, i2, i3⟩ := ents_on hn (k := k) (by omega) r
            rw [List.length_cons, Nat.mul_succ]
            exact ⟨by omega, i2, by omega⟩
        · rw [if_neg c] at e
          have e' := Option.some.inj e
          injection e' with e1 e2
          subst e1 e2
          show a + n * 1 = a + n ∧ _ ∧ 0 < 1
          exact ⟨by omega, by omega, by omega⟩
/-- each of them is of n words, parts of the text's -/
def PartOf (ws : List Str) (x : Str) : Prop := ∃ w ∈ ws, tl x <:+: tl w
theorem entW_part {ws t : List Str} (ne : t ≠ []) (h : ∀ x ∈ t, x ∈ ws) : ∀ x ∈ entW t, PartOf ws x := fun x m => by
  unfold entW at m
  rcases List.mem_append.mp m with m | m
  · exact ⟨x, h x ((List.dropLast_sublist t).subset m), List.infix_rfl⟩
  · rw [List.mem_singleton.mp m, List.getLastD_eq_getLast?, List.getLast?_eq_some_getLast ne]
    exact ⟨t.getLast ne, h _ (List.getLast_mem ne), cutCm_sub _⟩
theorem ents_part {ws : List Str} {n : Nat} (hn : 0 < n) : ∀ {k a : Nat} {ts : List (List Str)} {b : Nat}, ws.length - a < k → ents some ws n a = some (ts, b) → ∀ t ∈ ts, t.length = n ∧ ∀ x ∈ t, PartOf ws x
  | 0, a, vs, b, h, _ => absurd h (by omega)
  | k + 1, a, vs, b, h, e => by
    rw [ents_step some ws hn] at e
    by_cases z : ((ws.drop a).take n).length < n
    · rw [if_pos z] at e
      cases e
    · rw [if_neg z] at e
      have ln : ((ws.drop a).take n).length = n := by
        have := List.length_take_le n (ws.drop a)
        omega
      have ne : (ws.drop a).take n ≠ [] := fun q => by
        rw [q] at ln
        have : 0 = n := ln
        omega
      have one : (entW ((ws.drop a).take n)).length = n ∧ ∀ x ∈ entW ((ws.drop a).take n), PartOf ws x := ⟨(entW_len ne).trans ln, entW_part ne fun x m => List.mem_of_mem_drop (List.mem_of_mem_take m)⟩
      rw [List.length_take, List.length_drop] at z
      dsimp only at e
      by_cases c : isCm (((ws.drop a).take n).getLastD "") = true
      · rw [if_pos c] at e
        cases r : ents some ws n (a + n) with
        | none =>
          rw [r] at e
          cases e
        | some p =>
          obtain ⟨us, b'⟩ := p
          rw [r] at e
          have e' := Option.some.inj e
          injection e' with e1 e2
          subst e1 e2
          have ih := ents_part hn (k := k) (by omega) r
          intro t m
          rcases List.mem_cons.mp m with m | m
          · rw [m]
            exact one
          · exact ih t m
      · rw [if_neg c] at e
        have e' := Option.some.inj e
        injection e' with e1 e2
        subst e1 e2
        intro t m
        rw [List.mem_singleton.mp m]
        exact one
end Vm
/-! the text of a question, purely: what it tells -/
namespace Vm
open PySem PySem.Spec PyProof.Rows L2 TL
def ops4 : List Str := ["=", "!=", "<=", ">="]
def ops2 : List Str := ["<=", ">="]
def meas : List Str := ["count", "least", "greatest"]
def colB (x : Str) : Bool := decide ((Txt.split x ".").length = 2) && (Txt.split x ".").all nmS
inductive Opd where
  | s (x : Str)
  | n (i : Int)
abbrev Cnd := Str × Str × Opd
abbrev Bnd := Str × Str × Int
abbrev Use := Str × Str
def opdT (d : Str) : Option Opd := if (nmS d || colB d) = true then some (.s d) else if numW d = true then some (.n (intW d)) else none
def useT : List Str → Option Use
  | [t, w, al] => if w = "as" ∧ nmS t = true ∧ nmS al = true then some (al, t) else none
  | _ => none
def condT : List Str → Option Cnd
  | [c, o, d] => if colB c = true ∧ o ∈ ops4 then (opdT d).map fun y => (c, o, y) else none
  | _ => none
def colT : List Str → Option Str
  | [c] => if colB c = true then some c else none
  | _ => none
def bndT : List Str → Option Bnd
  | [w, o, l] => if w ∈ meas ∧ o ∈ ops2 ∧ numW l = true then some (w, o, intW l) else none
  | _ => none
def usT (ws : List Str) (a : Nat) : Option (List Use × Nat) := ents useT ws 3 a
def whT (ws : List Str) (a : Nat) : Option (List Cnd × Nat) := if ws[a]? = some ("where" : Str) then ents condT ws 3 (a + 1) else some ([], a)
/-- a without's two lists -/
def wo1 (ws : List Str) (a : Nat) : Option ((List Use × List Cnd) × Nat) := match usT ws a with
  | none => none
  | some (us, b) => match whT ws b with
    | none => none
    | some (wh, c) => some ((us, wh), c)
def woK (ws : List Str) : Nat → Nat → Option (List (List Use × List Cnd) × Nat)
  | 0, _ => none
  | k + 1, a => if ws[a]? = some ("without" : Str) then
      match wo1 ws (a + 1) with
      | none => none
      | some (p, b) => match woK ws k b with
        | none => none
        | some (ps, c) => some (p :: ps, c)
    else some ([], a)
def woT (ws : List Str) (a : Nat) : Option (List (List Use × List Cnd) × Nat) := woK ws (ws.length + 1) a
theorem usT_on {ws : List Str} {a b : Nat} {us : List Use} (h : usT ws a = some (us, b)) : a + 3 * us.length = b ∧ b ≤ ws.length ∧ 0 < us.length := ents_on (by decide) (k := ws.length - a + 1) (by omega) h
theorem get_lt {ws : List Str} {a : Nat} {x : Str} (h : ws[a]? = some x) : a < ws.length := (List.getElem?_eq_some_iff.mp h).1
theorem whT_on {ws : List Str} {a b : Nat} {wh : List Cnd} (la : a ≤ ws.length) (h : whT ws a = some (wh, b)) : a + 3 * wh.length ≤ b ∧ b ≤ ws.length := by
  unfold whT at h
  split at h
  · rename_i q
    obtain ⟨e1, e2, _⟩ := ents_on (by decide) (k := ws.length - (a + 1) + 1) (by omega) h
    exact ⟨by omega, e2⟩
  · have h := Option.some.inj h
    injection h with h1 h2
    subst h1 h2
    exact ⟨Nat.le_refl _, la⟩
theorem wo1_on {ws : List Str} {a b : Nat} {p : List Use × List Cnd} (h : wo1 ws a = some (p, b)) : a + 3 * p.1.length + 3 * p.2.length ≤ b ∧ b ≤ ws.length ∧ a < b := by
  unfold wo1 at h
  cases e : usT ws a with
  | none =>
    rw [e] at h
    cases h
  | some q =>
    obtain ⟨us, c⟩ := q
    rw [e] at h
    dsimp only at h
    obtain ⟨u1, u2, u3⟩ := usT_on e
    cases e2 : whT ws c with
    | none =>
      rw [e2] at h
      cases h
    | some q2 =>
      obtain ⟨wh, d⟩ := q2
      rw [e2] at h
      have h := Option.some.inj h
      injection h with h1 h2
      subst h1 h2
      obtain ⟨w1, w2⟩ := whT_on u2 e2
      exact ⟨by show a + 3 * us.length + 3 * wh.length ≤ d; omega, w2, by omega⟩
theorem woK_more (ws : List Str) : ∀ (k j a : Nat), ws.length - a < k → ws.length - a < j → woK ws k a = woK ws j a
  | 0, _, _, h, _ => absurd h (by omega)
  | _, 0, _, _, h => absurd h (by omega)
  | k + 1, j + 1, a, h1, h2 => by
    unfold woK
    by_cases z : ws[a]? = some ("without" : Str)
    · rw [if_pos z, if_pos z]
      have la := get_lt z
      cases e : wo1 ws (a + 1) with
      | none => rfl
      | some p =>
        obtain ⟨p, b⟩ := p
        have := wo1_on e
        dsimp only
        rw [woK_more ws k j b (by omega) (by omega)]
    · rw [if_neg z, if_neg z]
theorem wo_step (ws : List Str) (a : Nat) : woT ws a = if ws[a]? = some ("without" : Str) then
      match wo1 ws (a + 1) with
      | none => none
      | some (p, b) => match woT ws b with
        | none => none
        | some (ps, c) => some (p :: ps, c)
    else some ([], a) := by
  conv => lhs; unfold woT woK
  by_cases z : ws[a]? = some ("without" : Str)
  · rw [if_pos z, if_pos z]
    have la := get_lt z
    cases e : wo1 ws (a + 1) with
    | none => rfl
    | some p =>
      obtain ⟨p, b⟩ := p
      have := wo1_on e
      dsimp only
      unfold woT
      rw [woK_more ws ws.length (ws.length + 1) b (by omega) (by omega)]
  · rw [if_neg z, if_neg z]
structure Bd where
  us : List Use
  wh : List Cnd
  wo : List (List Use × List Cnd)
def bodyT (ws : List Str) (a : Nat) : Option (Bd × Nat) := if ws[a]? = some ("from" : Str) then
    match wo1 ws (a + 1) with
    | none => none
    | some (p, b) => match woT ws b with
      | none => none
      | some (wo, c) => some (⟨p.1, p.2, wo⟩, c)
  else none
def keepT (ws : List Str) (a : Nat) : Option (List Str × Nat) := if ws[a]? = some ("keep" : Str) then ents colT ws 1 (a + 1) else none
inductive Qn where
  | sel (b : Bd) (k : List Str)
  | uni (b : Bd) (k : List Str) (b' : Bd) (k' : List Str)
  | fst (b : Bd) (k : List Str) (y : Str) (n : Int) (f : Bool)
  | grp (b : Bd) (y : List Str) (l g : Option Str) (h : List Bnd)
/-- a select from a on -/
def selT (ws : List Str) (a : Nat) : Option ((Bd × List Str) × Nat) := match bodyT ws a with
  | none => none
  | some (b, c) => match keepT ws c with
    | none => none
    | some (k, d) => some ((b, k), d)
def firstT (b : Bd) (k : List Str) (ws : List Str) (c : Nat) : Option Qn := match ws[c + 1]?, ws[c + 2]?, ws[c + 3]? with
  | some n, some w, some y => if numW n = true ∧ 1 ≤ intW n ∧ w = "by" ∧ colB y = true then
      if ws[c + 4]? = some ("falling" : Str) then (if c + 5 = ws.length then some (.fst b k y (intW n) true) else none)
      else if c + 4 = ws.length then some (.fst b k y (intW n) false) else none
    else none
  | _, _, _ => none
def upW (ws : List Str) (a : Nat) : Str := ws[a]?.getD ""
def dotB (x : Str) : Bool := (tl x).any fun c => c == 46
def byT (ws : List Str) (a : Nat) : Option (List Str × Nat) := if dotB (upW ws a) = true then ents colT ws 1 a else some ([], a)
def oneT (w : Str) (ws : List Str) (a : Nat) : Option (Option Str × Nat) := if ws[a]? = some w then
    match ws[a + 1]? with
    | some c => if colB c = true then some (some c, a + 2) else none
    | none => none
  else some (none, a)
def havT (ws : List Str) (a : Nat) : Option (List Bnd × Nat) := if ws[a]? = some ("having" : Str) then ents bndT ws 3 (a + 1) else some ([], a)
/-- a group's parts from a on, and where they end -/
def grpT (ws : List Str) (a : Nat) : Option ((List Str × Option Str × Option Str × List Bnd) × Nat) := match byT ws a with
  | none => none
  | some (y, b) => match oneT "least" ws b with
    | none => none
    | some (l, c) => match oneT "greatest" ws c with
      | none => none
      | some (g, d) => match havT ws d with
        | none => none
        | some (h, e) => some ((y, l, g, h), e)
/-- the question of a text's words -/
def qnT (ws : List Str) : Option Qn := match bodyT ws 0 with
  | none => none
  | some (b, a) => if ws[a]? = some ("group" : Str) then
      match grpT ws (a + 1) with
      | none => none
      | some ((y, l, g, h), e) => if e = ws.length then some (.grp b y l g h) else none
    else match keepT ws a with
      | none => none
      | some (k, c) => if ws[c]? = some ("or" : Str) then
          match selT ws (c + 1) with
          | none => none
          | some ((b', k'), e) => if e = ws.length then some (.uni b k b' k') else none
        else if ws[c]? = some ("first" : Str) then firstT b k ws c
        else if c = ws.length then some (.sel b k) else none
/-! as trees -/
def useR (u : Use) : Tr := .tup [.str u.1, .str u.2]
def opdR : Opd → Tr
  | .s x => .str x
  | .n i => .int i
def cndR (c : Cnd) : Tr := .tup [.str c.1, .str c.2.1, opdR c.2.2]
def bndR (c : Bnd) : Tr := .tup [.str c.1, .str c.2.1, .int c.2.2]
def usR (us : List Use) : Tr := .tup (us.map useR)
def whR (wh : List Cnd) : Tr := .tup (wh.map cndR)
def woR (wo : List (List Use × List Cnd)) : Tr := .tup (wo.map fun p => .tup [usR p.1, whR p.2])
def csR (k : List Str) : Tr := .tup (k.map Tr.str)
def hvR (h : List Bnd) : Tr := .tup (h.map bndR)
def optR : Option Str → Tr
  | none => .non
  | some x => .str x
def selR (b : Bd) (k : List Str) : Tr := .tup [usR b.us, csR k, whR b.wh, woR b.wo]
def qnR : Qn → Tr
  | .sel b k => .tup [.str "select", selR b k]
  | .uni b k b' k' => .tup [.str "union", .tup [selR b k, selR b' k']]
  | .fst b k y n f => .tup [.str "first", .tup [selR b k, .str y, .int n, .bl f]]
  | .grp b y l g h => .tup [.str "groups", .tup [usR b.us, csR y, whR b.wh, woR b.wo, optR l, optR g, hvR h]]
/-- what a value tells as a question's text -/
def qnOf : Tr → Option Qn
  | .str x => qnT (Txt.split x " ")
  | _ => none
def toldQ (t : Tr) : Tr := match qnOf t with
  | none => .non
  | some q => qnR q
end Vm
/-! the program reads: names, columns, integers -/
namespace Vm
open PySem PySem.Spec PyProof.Rows L2 TL
abbrev sIsName : Stmt := top 12
abbrev sIsCol : Stmt := top 43
abbrev sReadCol : Stmt := top 42
abbrev sReadInt : Stmt := top 44
/-- what is wanted where InvalidText is raised -/
theorem bad_of {X : Cx} {CE : Addr} {H0 H' : Hp} {E : XK} (b : PySem.W.subIn X.K (.ref CE) (.type "BaseException") = some true) (t : PySem.W.typeIn X.K (.ref CE) = some (.type "type")) (fr : ∀ a, H' a = none → H0 a = none) (e : E (.ref CE) none H') :
    ∀ a, H' a = none → ∃ (a' : Addr) (cls : Value), V.ref a = .ref a' ∧ upd H' a (ExO (.ref CE) a) a' = some (ExO cls a') ∧ Fr0 H0 a' ∧ Raises X cls ∧ E cls none (delH (upd H' a (ExO (.ref CE) a)) a') := fun a na => by
  refine ⟨a, .ref CE, rfl, upd_same, fr0_none (fr a na), raises_own b t, ?_⟩
  rw [delH_new na]
  exact e
/-- a word, or a part of one -/
structure WdOk (x : Str) : Prop where
  len : x.length ≤ 4000
  asc : ∀ c ∈ tl x, c < 128
  num : numW x = true → x.length ≤ 250
structure TxtN (K : PySem.W.Frag) (mg : Str → Option Value) : Prop where
  isi : mg "isinstance" = none
  str : mg "str" = none
  len : mg "len" = none
  all : mg "all" = none
  int : mg "int" = none
  tuple : mg "tuple" = none
  long : ∃ t, mg "_LONGEST_NAME" = some (.int 8 t)
def spNm : Sp := fun vs H Q _ => ∃ x : Str, vs = [.str x] ∧ x.length ≤ 10000 ∧ (∀ c ∈ tl x, c < 128) ∧ ∀ H', Same H H' → Q (.bl (nmS x)) H'
def spCol : Sp := fun vs H Q _ => ∃ x : Str, vs = [.str x] ∧ WdOk x ∧ ∀ H', Same H H' → Q (.bl (colB x)) H'
def spReadCol (CE : Addr) : Sp := fun vs H Q E => ∃ x : Str, vs = [.str x] ∧ WdOk x ∧ (colB x = true → ∀ H', Same H H' → Q (.str x) H') ∧ (colB x = false → ∀ H', Same H H' → E (.ref CE) none H')
def spReadInt (CE : Addr) : Sp := fun vs H Q E => ∃ x : Str, vs = [.str x] ∧ WdOk x ∧ (numW x = true → ∀ H', Same H H' → Q (.int (intW x)) H') ∧ (numW x = false → ∀ H', Same H H' → E (.ref CE) none H')
theorem dot_tl : tl ("." : Str) = [46] := by decide +kernel
theorem dot_part {x p : Str} (h : p ∈ Txt.split x ".") : p.length ≤ x.length := by
  have z := infix_len (cut_infix dot_tl (by decide) p h)
  rw [len_tl, len_tl]
  exact z
theorem dot_asc {x p : Str} (h : p ∈ Txt.split x ".") (a : ∀ c ∈ tl x, c < 128) : ∀ c ∈ tl p, c < 128 := fun c m => a c ((cut_infix dot_tl (by decide) p h).subset m)
theorem dot_few (x : Str) : (Txt.split x ".").length ≤ x.length + 1 := by
  rw [cut_count dot_tl (by decide), len_tl]
  have z := List.count_le_length (a := 46) (l := tl x)
  omega
section
variable {P : Program} {w : World} {K : PySem.W.Frag} {mg : Str → Option Value} {base : Heap} {fNm fCol fNw CE : Addr}
theorem scIsName : FnScope ["thing"] ["thing"] (defScope sIsName) := ⟨rfl, rfl, rfl, by decide +kernel, rfl, by decide +kernel, by decide +kernel⟩
theorem ok_isname {f : Addr} {fd : FuncData} (F : Fun K "is_name" "is_name" sIsName f fd) (T : TxtN K mg) : FnOk P w K mg base CX0 1 f fd ["thing"] spNm := by
  refine F.ok scIsName (fun vs H Q E h => ?_) (fun cdv A outer s H vs Q E hr h => ?_)
  · obtain ⟨x, rfl, _⟩ := h
    rfl
  · obtain ⟨x, rfl, lx, ax, k⟩ := h
    obtain ⟨tk, hN⟩ := T.long
    have big : sizeLine > 100000 := by decide
    refine ⟨_, pss_cons (ps_if (PW.pt (pw_or (pt_not (pt_truth (pe_callB call_isi (by rfl) T.isi (by decide +kernel) (pa_cons (pv 0) (pa_cons (pe_bltn (v := .ty "str") (by rfl) T.str (by decide +kernel) rfl) pa_nil))) (fun _ => rfl)))
          (pw_or1 (pt_cmpR op_gt (pe_callB call_len_str (by rfl) T.len (by decide +kernel) (pa_cons (pv 0) pa_nil)) (pe_glob (v := .int 8) rfl hN ⟨_, rfl⟩) (nomark _)))))
        (pss_one (ps_ret pe_bl)) pss_nil)
      (pss_one (ps_ret (pe_and (pe_bm0 PySem.F.plainAttrs_str PySem.F.slot_str_isascii PySem.F.type_str_isascii mt_isascii (pv 0))
        (pe_and (pe_bm0 PySem.F.plainAttrs_str PySem.F.slot_str_isalpha PySem.F.type_str_isalpha mt_isalpha (pv 0)) (pe_one (pe_bm0 PySem.F.plainAttrs_str PySem.F.slot_str_islower PySem.F.type_str_islower mt_islower (pv 0))))))), ?_⟩
    have d : Dt K H (.str x) (.str x) 0 [] := str_dt (by omega) ax
    refine ⟨_, rfl, .str x, _, _, _, true, rfl, .ty _, d.ty, kit_str (.str x), true, rfl, ?_⟩
    refine iteF ?_
    refine ⟨_, rfl, x, rfl, by omega, _, _, rfl, rfl, _, rfl, ?_⟩
    refine ite_ (fun e => ?_) (fun e => ?_)
    · have z : nmS x = false := by
        unfold nmS
        rw [decide_eq_false (show ¬ x.length ≤ 8 by omega), Bool.false_and, Bool.and_false]
      have q := k H (Same.refl H)
      rw [z] at q
      exact q
    · have z := nm_prog (x := x) (by omega)
      have q := k H (Same.refl H)
      rw [← z] at q
      refine ⟨_, rfl, rfl, x, rfl, rfl, True.intro, _, rfl, ?_⟩
      show if Txt.isascii x = true then _ else _
      cases e1 : Txt.isascii x with
      | false =>
        rw [e1] at q
        exact iteF q
      | true =>
        rw [e1, Bool.true_and] at q
        refine iteT ?_
        refine ⟨_, rfl, rfl, x, rfl, rfl, True.intro, _, rfl, ?_⟩
        cases e2 : Txt.isalpha x with
        | false =>
          rw [e2] at q
          exact iteF q
        | true =>
          rw [e2, Bool.true_and] at q
          refine iteT ?_
          exact ⟨_, rfl, rfl, x, rfl, rfl, True.intro, q⟩
theorem scIsCol : FnScope ["word", "parts", "part"] ["word"] (defScope sIsCol) := ⟨rfl, rfl, rfl, by decide +kernel, rfl, by decide +kernel, by decide +kernel⟩
theorem ok_iscol {f : Addr} {fd fdN : FuncData} (F : Fun K "_is_column" "_is_column" sIsCol f fd) (T : TxtN K mg) (cN : Calls K mg "is_name" fNm) (GN : FnOk P w K mg base CX0 1 fNm fdN ["thing"] spNm) (bN : Binds K fdN ["thing"] []) :
    FnOk P w K mg base CX0 2 f fd ["word"] spCol := by
  refine F.ok scIsCol (fun vs H Q E h => ?_) (fun cdv A outer s H vs Q E hr h => ?_)
  · obtain ⟨x, rfl, _⟩ := h
    rfl
  · obtain ⟨x, rfl, ox, k⟩ := h
    have lx := ox.len
    have big : sizeLine > 100000 := by decide
    refine ⟨_, pss_cons (ps_set (i := 1) scIsCol.nd rfl (Or.inl rfl) (pe_split (pv 0) pe_str))
      (pss_one (ps_ret (pe_and (pe_cmpR op_eq (pe_callB call_len_seq (by rfl) T.len (by decide +kernel) (pa_cons (pv 1) pa_nil)) pe_int (nomark _))
        (pe_one (pe_callB (cr_all rfl) (by rfl) T.all (by decide +kernel) (pa_cons (pe_lc (own := [("part", 2)]) (g := gName 2) (tt := tYes) (te := tCall spNm [] E0 (tCons (tVar 2) tNil)) rfl scIsCol.nd (pi_list (pv 1))
          (blkOk_by (N := ["word", "parts", "part"]) (sc := defScope sIsCol) (by decide +kernel)) (fun _ _ _ _ _ => pg_name (i := 2) scIsCol.nd rfl (Or.inl rfl)) (fun _ _ _ _ _ => pts_nil)
          (fun _ _ _ _ _ => by exact (pe_call GN hr rfl cN.g cN.k bN .nil pass0 (pa_cons (pv 2) pa_nil)))) pa_nil)))))), ?_⟩
    refine ⟨_, rfl, ⟨_, rfl⟩, _, _, rfl, rfl, by decide +kernel, by omega, fun p hp => ?_⟩
    have few := dot_few x
    have part : ∀ q ∈ Txt.split x ".", q.length ≤ x.length := fun q m => dot_part m
    have asc : ∀ q ∈ Txt.split x ".", ∀ c ∈ tl q, c < 128 := fun q m => dot_asc m ox.asc
    have ck : colB x = (decide ((Txt.split x ".").length = 2) && (Txt.split x ".").all nmS) := rfl
    generalize Txt.split x "." = ps at few part asc ck ⊢
    have s1 := same_upd (o := .lst (ps.map V.str)) hp
    have e1 : upd H p (.lst (ps.map V.str)) p = some (.lst (ps.map V.str)) := upd_same
    show tSeq _ _ _ _ (upd H p (.lst (ps.map V.str)))
    generalize upd H p (.lst (ps.map V.str)) = H1 at s1 e1 ⊢
    refine ⟨_, rfl, p, _, rfl, .inl (SqL.of e1), rfl, _, rfl, ?_⟩
    rw [List.length_map]
    refine ite_ (fun e2 => ?_) (fun e2 => ?_)
    · have l2 : ps.length = 2 := by
        have := V.int.inj e2
        omega
      refine ⟨_, rfl, p, rfl, ⟨_, SqL.of e1⟩, fun D hD => ?_⟩
      refine lc_list (K := K) (a := p) (xs := ps.map V.str) (fun i H' => Same H1 H' ∧ H' D = some (.lst ((ps.take i).map fun x => V.bl (nmS x)))) ⟨same_upd hD, upd_same⟩ (fun i H' _ z => SqL.of (z.1 _ _ e1)) ?_ ?_
      · rintro i y H2 hi ⟨s2, e2⟩
        obtain ⟨z, qc, rfl⟩ := map_at' hi
        refine ⟨rfl, ?_⟩
        dsimp only [tYes]
        rw [if_pos rfl]
        have lz := part z (List.mem_of_getElem? qc)
        refine ⟨_, rfl, z, rfl, by omega, asc z (List.mem_of_getElem? qc), fun H3 s3 => ?_⟩
        refine ⟨_, s3 _ _ e2, by
          rw [List.length_map, List.length_take]
          omega, fun b o e => ?_, ?_⟩
        · rw [upd_ne (ne_of_none e hD)]
          exact s3 _ _ (s2 _ _ e)
        · rw [upd_same, List.take_add_one, qc]
          simp
      · rintro H2 ⟨s2, e2⟩
        rw [List.length_map, List.take_length] at e2
        refine ⟨D, ps.map nmS, rfl, SqL.of (by rw [e2, List.map_map]; rfl), ?_⟩
        have al : (ps.map nmS).all id = ps.all nmS := by
          rw [List.all_map]
          rfl
        rw [al]
        have q := k H2 (s1.trans s2)
        rw [ck, decide_eq_true l2, Bool.true_and] at q
        exact q
    · have q := k H1 s1
      rw [ck, decide_eq_false (fun z => e2 (by rw [z]; rfl)), Bool.false_and] at q
      exact q
theorem scReadCol : FnScope ["word"] ["word"] (defScope sReadCol) := ⟨rfl, rfl, rfl, by decide +kernel, rfl, by decide +kernel, by decide +kernel⟩
theorem ok_readcol {f : Addr} {fd fdC : FuncData} (F : Fun K "_read_column" "_read_column" sReadCol f fd) (Z : TxtX K mg CE) (cC : Calls K mg "_is_column" fCol) (GC : FnOk P w K mg base CX0 2 fCol fdC ["word"] spCol) (bC : Binds K fdC ["word"] []) :
    FnOk P w K mg base (L2.CX P w) 3 f fd ["word"] (spReadCol CE) := by
  refine F.okX scReadCol (fun vs H Q E h => ?_) (fun cdv A outer s H vs Q E hr h => ?_)
  · obtain ⟨x, rfl, _⟩ := h
    rfl
  · obtain ⟨x, rfl, ox, yes, no⟩ := h
    refine ⟨_, pss_cons (ps_if (pt_not (pt_val (pe_call GC hr rfl cC.g cC.k bC .nil pass0 (pa_cons (pv 0) pa_nil)))) (pss_one (ps_raise rfl (takes_of rfl rfl rfl rfl) (pmk_ret rfl (pe_xbare PySem.F.excBase_ValueError Z.x Z.g Z.k rfl)))) pss_nil)
      (pss_one (ps_ret (pv 0))), ?_⟩
    refine ⟨_, rfl, x, rfl, ox, fun H1 s1 => ⟨_, rfl, ?_⟩⟩
    cases e : colB x with
    | false => exact iteT (bad_of Z.b Z.t (fun a na => s1.free na) (no e H1 s1))
    | true => exact iteF ⟨_, rfl, yes e H1 s1⟩
theorem scReadInt : FnScope ["word"] ["word"] (defScope sReadInt) := ⟨rfl, rfl, rfl, by decide +kernel, rfl, by decide +kernel, by decide +kernel⟩
theorem ok_readint {f : Addr} {fd fdN : FuncData} (F : Fun K "_read_integer" "_read_integer" sReadInt f fd) (T : TxtN K mg) (Z : TxtX K mg CE) (cN : Calls K mg "is_number_word" fNw) (GN : FnOk P w K mg base CX0 1 fNw fdN ["word"] spNumW) (bN : Binds K fdN ["word"] []) :
    FnOk P w K mg base (L2.CX P w) 2 f fd ["word"] (spReadInt CE) := by
  refine F.okX scReadInt (fun vs H Q E h => ?_) (fun cdv A outer s H vs Q E hr h => ?_)
  · obtain ⟨x, rfl, _⟩ := h
    rfl
  · obtain ⟨x, rfl, ox, yes, no⟩ := h
    have lx := ox.len
    refine ⟨_, pss_cons (ps_if (pt_not (pt_val (pe_call GN hr rfl cN.g cN.k bN .nil pass0 (pa_cons (pv 0) pa_nil)))) (pss_one (ps_raise rfl (takes_of rfl rfl rfl rfl) (pmk_ret rfl (pe_xbare PySem.F.excBase_ValueError Z.x Z.g Z.k rfl)))) pss_nil)
      (pss_one (ps_ret (pe_callTy call_int_str (by rfl) T.int (by decide +kernel) (pa_cons (pv 0) pa_nil)))), ?_⟩
    refine ⟨_, rfl, x, rfl, by omega, ⟨_, rfl, ?_⟩⟩
    cases e : numW x with
    | false => exact iteT (bad_of Z.b Z.t (fun a na => na) (no e H (Same.refl H)))
    | true =>
      have l := ox.num e
      exact iteF ⟨_, rfl, x, intW x, rfl, (num_int e l).1, by omega, yes e H (Same.refl H)⟩
end
end Vm
/-! the program reads: operands, uses, conditions, bounds -/
namespace Vm
open PySem PySem.Spec PyProof.Rows L2 TL
abbrev sOpd : Stmt := top 39
abbrev sUse : Stmt := top 36
abbrev sCond : Stmt := top 38
abbrev sBnd : Stmt := top 40
def opdV : Opd → V
  | .s x => .str x
  | .n i => .int i
/-- data of tuples alone -/
abbrev FD (K : PySem.W.Frag) (H : Hp) (v : V) (t : Tr) (n : Nat) : Prop := DP K H (FrzAt H) v t n
abbrev FDs (K : PySem.W.Frag) (H : Hp) (v : List V) (t : List Tr) (n : Nat) : Prop := DPs K H (FrzAt H) v t n
structure TxtG (K : PySem.W.Frag) (mg : Str → Option Value) (aO aB aM : Addr) : Prop where
  gO : mg "_OPERATORS" = some (.ref aO)
  sO : ∀ H, SqT K H aO (ops4.map V.str)
  gB : mg "_BOUND_OPERATORS" = some (.ref aB)
  sB : ∀ H, SqT K H aB (ops2.map V.str)
  gM : mg "_MEASURES" = some (.ref aM)
  sM : ∀ H, SqT K H aM (meas.map V.str)
theorem inV_mem (z : Str) (ks : List Str) : inV (.str z) (ks.map V.str) = decide (z ∈ ks) := by
  unfold inV
  rw [List.any_map, Bool.eq_iff_iff, List.any_eq_true, decide_eq_true_iff]
  constructor
  · rintro ⟨y, m, e⟩
    have e : decide (y = z) = true := e
    exact (of_decide_eq_true e) ▸ m
  · intro m
    exact ⟨z, m, show decide (z = z) = true from decide_eq_true rfl⟩
theorem flat_strs (ks : List Str) : (ks.map V.str).all flatV = true := by
  rw [List.all_map, List.all_eq_true]
  intro x _
  rfl
theorem three_of {ws : List Str} (h : ws.length = 3) : ∃ a b c, ws = [a, b, c] := by
  match ws, h with
  | [a, b, c], _ => exact ⟨a, b, c, rfl⟩
/-- the answer of a reader: what is read, or InvalidText -/
def rdr {α : Type} (CE : Addr) (r : Option α) (H : Hp) (A : α → V → Hp → Prop) (Q : VK) (E : XK) : Prop :=
  (∀ y, r = some y → ∀ v H', Same H H' → A y v H' → Q v H') ∧ (r = none → ∀ H', Same H H' → E (.ref CE) none H')
def spOpd (CE : Addr) : Sp := fun vs H Q E => ∃ x : Str, vs = [.str x] ∧ WdOk x ∧ rdr CE (opdT x) H (fun y v _ => v = opdV y) Q E
def spEnt {α : Type} (K : PySem.W.Frag) (CE : Addr) (f : List Str → Option α) (g : α → Tr) : Sp := fun vs H Q E => ∃ (l : Addr) (t : List Str), vs = [.ref l] ∧ SqL K H l (t.map V.str) ∧ t.length = 3 ∧ (∀ x ∈ t, WdOk x) ∧ rdr CE (f t) H (fun y v H' => FD K H' v (g y) 1) Q E
theorem WdOk.dp {K : PySem.W.Frag} {H : Hp} {P : Addr → Prop} {x : Str} {n : Nat} (h : WdOk x) : DP K H P (.str x) (.str x) n := ⟨[], str_dt (by have := h.len; omega) h.asc, fun _ m => nomatch m⟩
theorem int_dp {K : PySem.W.Frag} {H : Hp} {P : Addr → Prop} {x : Str} {n : Nat} (h : WdOk x) (nx : numW x = true) : DP K H P (.int (intW x)) (.int (intW x)) n := by
  have l := (num_int nx (h.num nx)).2
  refine .int ?_
  by_cases z : (intW x).natAbs = 0
  · rw [z]
    decide
  · refine (Nat.log2_lt z).mpr (Nat.lt_trans l ?_)
    decide +kernel
theorem opd_dp {K : PySem.W.Frag} {H : Hp} {P : Addr → Prop} {x : Str} {y : Opd} {n : Nat} (h : WdOk x) (e : opdT x = some y) : DP K H P (opdV y) (opdR y) n := by
  unfold opdT at e
  split at e
  · rw [← Option.some.inj e]
    exact h.dp
  · split at e
    · rename_i nx
      rw [← Option.some.inj e]
      exact int_dp h nx
    · cases e
section
variable {P : Program} {w : World} {K : PySem.W.Frag} {mg : Str → Option Value} {base : Heap} {fNm fCol fRC fRI fOp CE aO aB aM : Addr}
theorem scOpd : FnScope ["word"] ["word"] (defScope sOpd) := ⟨rfl, rfl, rfl, by decide +kernel, rfl, by decide +kernel, by decide +kernel⟩
theorem ok_opd {f : Addr} {fd fdN fdC fdI : FuncData} (F : Fun K "_read_operand" "_read_operand" sOpd f fd)
    (cN : Calls K mg "is_name" fNm) (GN : FnOk P w K mg base CX0 1 fNm fdN ["thing"] spNm) (bN : Binds K fdN ["thing"] [])
    (cC : Calls K mg "_is_column" fCol) (GC : FnOk P w K mg base CX0 2 fCol fdC ["word"] spCol) (bC : Binds K fdC ["word"] [])
    (cI : Calls K mg "_read_integer" fRI) (GI : FnOk P w K mg base (L2.CX P w) 2 fRI fdI ["word"] (spReadInt CE)) (bI : Binds K fdI ["word"] []) :
    FnOk P w K mg base (L2.CX P w) 3 f fd ["word"] (spOpd CE) := by
  refine F.okX scOpd (fun vs H Q E h => ?_) (fun cdv A outer s H vs Q E hr h => ?_)
  · obtain ⟨x, rfl, _⟩ := h
    rfl
  · obtain ⟨x, rfl, ox, yes, no⟩ := h
    have hr1 : Room 1 _ := hr.mono (by decide)
    have lx := ox.len
    refine ⟨_, pss_cons (ps_if (PW.pt (pw_or (pt_val (pe_call GN hr1 rfl cN.g cN.k bN .nil pass0 (pa_cons (pv 0) pa_nil))) (pw_or1 (pt_val (pe_call GC hr rfl cC.g cC.k bC .nil pass0 (pa_cons (pv 0) pa_nil)))))) (pss_one (ps_ret (pv 0))) pss_nil)
      (pss_one (ps_ret (pe_callS (E := fun _ => E) GI hr rfl cI.g cI.k bI (fun σ => passAt (takes_of rfl rfl rfl rfl) σ) (pa_cons (pv 0) pa_nil)))), ?_⟩
    refine ⟨_, rfl, x, rfl, by omega, ox.asc, fun H1 s1 => ⟨_, rfl, ?_⟩⟩
    have last : nmS x = false → colB x = false → ∀ H', Same H H' → ∃ b, (V.str x = V.str b) ∧ WdOk b ∧ (numW b = true → ∀ H'', Same H' H'' → Q (.int (intW b)) H'') ∧ (numW b = false → ∀ H'', Same H' H'' → E (.ref CE) none H'') := fun a b H' s' => by
      have e : opdT x = if numW x = true then some (.n (intW x)) else none := by
        unfold opdT
        rw [a, b]
        rfl
      refine ⟨x, rfl, ox, fun nx H2 s2 => yes (.n (intW x)) (by rw [e, if_pos nx]) _ H2 (s'.trans s2) rfl, fun nx H2 s2 => no (by rw [e, if_neg (by rw [nx]; decide)]) H2 (s'.trans s2)⟩
    cases e1 : nmS x with
    | true =>
      have e : opdT x = some (.s x) := by
        unfold opdT
        rw [e1]
        rfl
      exact iteT (iteT ⟨_, rfl, yes _ e _ H1 s1 rfl⟩)
    | false =>
      refine iteF ⟨_, rfl, x, rfl, ox, fun H2 s2 => ⟨_, rfl, ?_⟩⟩
      cases e2 : colB x with
      | true =>
        have e : opdT x = some (.s x) := by
          unfold opdT
          rw [e1, e2]
          rfl
        exact iteT ⟨_, rfl, yes _ e _ H2 (s1.trans s2) rfl⟩
      | false =>
        obtain ⟨b, eb, r⟩ := last e1 e2 H2 (s1.trans s2)
        exact iteF ⟨_, rfl, b, by rw [eb], r⟩
theorem scUse : FnScope ["item", "table", "word", "alias"] ["item"] (defScope sUse) := ⟨rfl, rfl, rfl, by decide +kernel, rfl, by decide +kernel, by decide +kernel⟩
theorem ok_use {f : Addr} {fd fdN : FuncData} (F : Fun K "_read_use" "_read_use" sUse f fd) (Z : TxtX K mg CE)
    (cN : Calls K mg "is_name" fNm) (GN : FnOk P w K mg base CX0 1 fNm fdN ["thing"] spNm) (bN : Binds K fdN ["thing"] []) :
    FnOk P w K mg base (L2.CX P w) 2 f fd ["item"] (spEnt K CE useT useR) := by
  refine F.okX scUse (fun vs H Q E h => ?_) (fun cdv A outer s H vs Q E hr h => ?_)
  · obtain ⟨l, t, rfl, _⟩ := h
    rfl
  · obtain ⟨l, t, rfl, hl, l3, ok, yes, no⟩ := h
    obtain ⟨a, b, c, rfl⟩ := three_of l3
    have oa := ok a (by simp)
    have ob := ok b (by simp)
    have oc := ok c (by simp)
    have la := oa.len
    have lc := oc.len
    have big : sizeLine > 100000 := by decide
    have eu : useT [a, b, c] = if b = "as" ∧ nmS a = true ∧ nmS c = true then some (c, a) else none := rfl
    refine ⟨_, pss_cons (ps_asg (pv 0) (pg_lst rfl (pgs_cons (pg_name (i := 1) scUse.nd rfl (Or.inl rfl)) (pgs_cons (pg_name (i := 2) scUse.nd rfl (Or.inl rfl)) (pgs_cons (pg_name (i := 3) scUse.nd rfl (Or.inl rfl)) pgs_nil)))))
      (pss_cons (ps_if (PW.pt (pw_or (pt_cmpR op_ne (pv 2) pe_str (nomark _)) (pw_or (pt_not (pt_val (pe_call GN hr rfl cN.g cN.k bN .nil pass0 (pa_cons (pv 1) pa_nil)))) (pw_or1 (pt_not (pt_val (pe_call GN hr rfl cN.g cN.k bN .nil pass0 (pa_cons (pv 3) pa_nil))))))))
        (pss_one (ps_raise rfl (takes_of rfl rfl rfl rfl) (pmk_ret rfl (pe_xbare PySem.F.excBase_ValueError Z.x Z.g Z.k rfl)))) pss_nil)
      (pss_one (ps_ret (pe_tupF (pa_cons (pv 3) (pa_cons (pv 1) pa_nil)))))), ?_⟩
    have hl3 : SqL K H l [.str a, .str b, .str c] := hl
    refine ⟨_, rfl, l, _, rfl, hl3, rfl, _, _, rfl, _, _, rfl, _, _, rfl, rfl, ?_⟩
    refine ⟨_, rfl, rfl, _, rfl, ?_⟩
    refine iteB (fun c8 => ?_) (fun c8 => ?_)
    · have nb : b ≠ "as" := fun z => by
        rw [z] at c8
        have q : decide (V.str ("as" : Str) = V.str "as") = true := decide_eq_true rfl
        rw [q] at c8
        cases c8
      exact iteT (bad_of Z.b Z.t (fun a na => na) (no (by rw [eu, if_neg fun z => nb z.1]) H (Same.refl H)))
    · have eb : b = "as" := by
        cases q : decide (V.str b = V.str ("as" : Str)) with
        | true => exact V.str.inj (of_decide_eq_true q)
        | false =>
          rw [q] at c8
          cases c8
      refine ⟨_, rfl, a, rfl, by omega, oa.asc, fun H1 s1 => ⟨_, rfl, ?_⟩⟩
      cases e1 : nmS a with
      | false =>
        exact iteT (iteT (bad_of Z.b Z.t (fun a na => s1.free na) (no (by rw [eu, if_neg (by rintro ⟨_, z, _⟩; rw [e1] at z; cases z)]) H1 s1)))
      | true =>
        refine iteF ⟨_, rfl, c, rfl, by omega, oc.asc, fun H2 s2 => ⟨_, rfl, ?_⟩⟩
        cases e2 : nmS c with
        | false =>
          exact iteT (bad_of Z.b Z.t (fun a na => (s1.trans s2).free na) (no (by rw [eu, if_neg (by rintro ⟨_, _, z⟩; rw [e2] at z; cases z)]) H2 (s1.trans s2)))
        | true =>
          refine iteF ⟨_, rfl, _, rfl, by show 2 ≤ sizeLine; omega, fun p o hp ho => ?_⟩
          have d : FDs K H2 [.str c, .str a] [.str c, .str a] 0 := .cons oc.dp (.cons oa.dp .nil)
          exact yes (c, a) (by rw [eu, if_pos ⟨eb, e1, e2⟩]) _ _ ((s1.trans s2).trans (same_upd hp)) (d.tupF hp ho)
end
end Vm
/-! the program reads: conditions, bounds -/
namespace Vm
open PySem PySem.Spec PyProof.Rows L2 TL
section
variable {P : Program} {w : World} {K : PySem.W.Frag} {mg : Str → Option Value} {base : Heap} {fNm fCol fRC fRI fOp CE aO aB aM : Addr}
theorem scCond : FnScope ["item", "column", "operator", "operand"] ["item"] (defScope sCond) := ⟨rfl, rfl, rfl, by decide +kernel, rfl, by decide +kernel, by decide +kernel⟩
theorem ok_cond {f : Addr} {fd fdC fdO : FuncData} (F : Fun K "_read_condition" "_read_condition" sCond f fd) (Z : TxtX K mg CE) (G : TxtG K mg aO aB aM)
    (cC : Calls K mg "_read_column" fRC) (GC : FnOk P w K mg base (L2.CX P w) 3 fRC fdC ["word"] (spReadCol CE)) (bC : Binds K fdC ["word"] [])
    (cO : Calls K mg "_read_operand" fOp) (GO : FnOk P w K mg base (L2.CX P w) 3 fOp fdO ["word"] (spOpd CE)) (bO : Binds K fdO ["word"] []) :
    FnOk P w K mg base (L2.CX P w) 4 f fd ["item"] (spEnt K CE condT cndR) := by
  refine F.okX scCond (fun vs H Q E h => ?_) (fun cdv A outer s H vs Q E hr h => ?_)
  · obtain ⟨l, t, rfl, _⟩ := h
    rfl
  · obtain ⟨l, t, rfl, hl, l3, ok, yes, no⟩ := h
    obtain ⟨a, b, c, rfl⟩ := three_of l3
    have oa := ok a (by simp)
    have ob := ok b (by simp)
    have oc := ok c (by simp)
    have big : sizeLine > 100000 := by decide
    have eu : condT [a, b, c] = if colB a = true ∧ b ∈ ops4 then (opdT c).map fun y => (a, b, y) else none := rfl
    refine ⟨_, pss_cons (ps_asg (pv 0) (pg_lst rfl (pgs_cons (pg_name (i := 1) scCond.nd rfl (Or.inl rfl)) (pgs_cons (pg_name (i := 2) scCond.nd rfl (Or.inl rfl)) (pgs_cons (pg_name (i := 3) scCond.nd rfl (Or.inl rfl)) pgs_nil)))))
      (pss_cons (ps_if (pt_cmpR op_notIn_seq (pv 2) (pe_glob (v := .ref aO) (by rfl) G.gO rfl) (by rfl))
        (pss_one (ps_raise rfl (takes_of rfl rfl rfl rfl) (pmk_ret rfl (pe_xbare PySem.F.excBase_ValueError Z.x Z.g Z.k rfl)))) pss_nil)
      (pss_one (ps_ret (pe_tupF (pa_cons (pe_callS (E := fun _ => E) GC hr rfl cC.g cC.k bC (fun σ => passAt (takes_of rfl rfl rfl rfl) σ) (pa_cons (pv 1) pa_nil)) (pa_cons (pv 2)
        (pa_cons (pe_callS (E := fun _ => E) GO hr rfl cO.g cO.k bO (fun σ => passAt (takes_of rfl rfl rfl rfl) σ) (pa_cons (pv 3) pa_nil)) pa_nil))))))), ?_⟩
    have hl3 : SqL K H l [.str a, .str b, .str c] := hl
    refine ⟨_, rfl, l, _, rfl, hl3, rfl, _, _, rfl, _, _, rfl, _, _, rfl, rfl, ?_⟩
    refine ⟨_, rfl, aO, _, rfl, .inr (G.sO _), rfl, flat_strs _, _, rfl, ?_⟩
    show if (!inV (.str b) (ops4.map V.str)) = true then _ else _
    rw [inV_mem]
    by_cases mb : b ∈ ops4
    · rw [decide_eq_true mb]
      refine iteF ⟨_, rfl, a, rfl, oa, fun ca H1 s1 => ?_, fun ca H1 s1 => no (by rw [eu, if_neg (by rintro ⟨z, _⟩; rw [ca] at z; cases z)]) H1 s1⟩
      have eu2 : condT [a, b, c] = (opdT c).map fun y => (a, b, y) := by rw [eu, if_pos ⟨ca, mb⟩]
      refine ⟨_, rfl, _, rfl, c, rfl, oc, fun y ey v H2 s2 ev => ?_, fun ey H2 s2 => no (by rw [eu2, ey]; rfl) H2 (s1.trans s2)⟩
      subst ev
      refine ⟨by show 3 ≤ sizeLine; omega, fun p o hp ho => ?_⟩
      have d : FDs K H2 [.str a, .str b, opdV y] [.str a, .str b, opdR y] 0 := .cons oa.dp (.cons ob.dp (.cons (opd_dp oc ey) .nil))
      exact yes (a, b, y) (by rw [eu2, ey]; rfl) _ _ ((s1.trans s2).trans (same_upd hp)) (d.tupF hp ho)
    · rw [decide_eq_false mb]
      exact iteT (bad_of Z.b Z.t (fun a na => na) (no (by rw [eu, if_neg fun z => mb z.2]) H (Same.refl H)))
theorem scBnd : FnScope ["item", "what", "operator", "limit"] ["item"] (defScope sBnd) := ⟨rfl, rfl, rfl, by decide +kernel, rfl, by decide +kernel, by decide +kernel⟩
theorem ok_bnd {f : Addr} {fd fdI : FuncData} (F : Fun K "_read_bound" "_read_bound" sBnd f fd) (Z : TxtX K mg CE) (G : TxtG K mg aO aB aM)
    (cI : Calls K mg "_read_integer" fRI) (GI : FnOk P w K mg base (L2.CX P w) 2 fRI fdI ["word"] (spReadInt CE)) (bI : Binds K fdI ["word"] []) :
    FnOk P w K mg base (L2.CX P w) 3 f fd ["item"] (spEnt K CE bndT bndR) := by
  refine F.okX scBnd (fun vs H Q E h => ?_) (fun cdv A outer s H vs Q E hr h => ?_)
  · obtain ⟨l, t, rfl, _⟩ := h
    rfl
  · obtain ⟨l, t, rfl, hl, l3, ok, yes, no⟩ := h
    obtain ⟨a, b, c, rfl⟩ := three_of l3
    have oa := ok a (by simp)
    have ob := ok b (by simp)
    have oc := ok c (by simp)
    have big : sizeLine > 100000 := by decide
    have eu : bndT [a, b, c] = if a ∈ meas ∧ b ∈ ops2 ∧ numW c = true then some (a, b, intW c) else none := rfl
    refine ⟨_, pss_cons (ps_asg (pv 0) (pg_lst rfl (pgs_cons (pg_name (i := 1) scBnd.nd rfl (Or.inl rfl)) (pgs_cons (pg_name (i := 2) scBnd.nd rfl (Or.inl rfl)) (pgs_cons (pg_name (i := 3) scBnd.nd rfl (Or.inl rfl)) pgs_nil)))))
      (pss_cons (ps_if (PW.pt (pw_or (pt_cmpR op_notIn_seq (pv 1) (pe_glob (v := .ref aM) (by rfl) G.gM rfl) (by rfl)) (pw_or1 (pt_cmpR op_notIn_seq (pv 2) (pe_glob (v := .ref aB) (by rfl) G.gB rfl) (by rfl)))))
        (pss_one (ps_raise rfl (takes_of rfl rfl rfl rfl) (pmk_ret rfl (pe_xbare PySem.F.excBase_ValueError Z.x Z.g Z.k rfl)))) pss_nil)
      (pss_one (ps_ret (pe_tupF (pa_cons (pv 1) (pa_cons (pv 2) (pa_cons (pe_callS (E := fun _ => E) GI (hr.mono (by decide)) rfl cI.g cI.k bI (fun σ => passAt (takes_of rfl rfl rfl rfl) σ) (pa_cons (pv 3) pa_nil)) pa_nil))))))), ?_⟩
    have hl3 : SqL K H l [.str a, .str b, .str c] := hl
    refine ⟨_, rfl, l, _, rfl, hl3, rfl, _, _, rfl, _, _, rfl, _, _, rfl, rfl, ?_⟩
    refine ⟨_, rfl, aM, _, rfl, .inr (G.sM _), rfl, flat_strs _, _, rfl, ?_⟩
    show if (!inV (.str a) (meas.map V.str)) = true then _ else _
    rw [inV_mem]
    by_cases ma : a ∈ meas
    · rw [decide_eq_true ma]
      refine iteF ?_
      refine ⟨_, rfl, aB, _, rfl, .inr (G.sB _), rfl, flat_strs _, _, rfl, ?_⟩
      show if (!inV (.str b) (ops2.map V.str)) = true then _ else _
      rw [inV_mem]
      by_cases mb : b ∈ ops2
      · rw [decide_eq_true mb]
        refine iteF ⟨_, rfl, _, rfl, _, rfl, c, rfl, oc, fun nc H1 s1 => ?_, fun nc H1 s1 => no (by rw [eu, if_neg (by rintro ⟨_, _, z⟩; rw [nc] at z; cases z)]) H1 s1⟩
        refine ⟨by show 3 ≤ sizeLine; omega, fun p o hp ho => ?_⟩
        have d : FDs K H1 [.str a, .str b, .int (intW c)] [.str a, .str b, .int (intW c)] 0 := .cons oa.dp (.cons ob.dp (.cons (int_dp oc nc) .nil))
        exact yes (a, b, intW c) (by rw [eu, if_pos ⟨ma, mb, nc⟩]) _ _ (s1.trans (same_upd hp)) (d.tupF hp ho)
      · rw [decide_eq_false mb]
        exact iteT (bad_of Z.b Z.t (fun a na => na) (no (by rw [eu, if_neg fun z => mb z.2.1]) H (Same.refl H)))
    · rw [decide_eq_false ma]
      exact iteT (iteT (bad_of Z.b Z.t (fun a na => na) (no (by rw [eu, if_neg fun z => ma z.1]) H (Same.refl H))))
end
end Vm
/-! the program's Words -/
namespace Vm
open PySem PySem.Spec PyProof.Rows L2 TL
abbrev sWInit : Stmt := inClass (top 29) 0
abbrev sEnded : Stmt := inClass (top 29) 1
abbrev sUpc : Stmt := inClass (top 29) 2
abbrev sTake : Stmt := inClass (top 29) 3
abbrev sPasses : Stmt := inClass (top 29) 4
abbrev sExpect : Stmt := inClass (top 29) 5
abbrev sItems : Stmt := inClass (top 29) 6
/-- all but o stands as before, and o is there -/
structure Ot (o : Addr) (H H' : Hp) : Prop where
  keep : ∀ b u, b ≠ o → H b = some u → H' b = some u
  there : ∃ u, H' o = some u
theorem Ot.trans {o : Addr} {H H1 H2 : Hp} (x : Ot o H H1) (y : Ot o H1 H2) : Ot o H H2 := ⟨fun b u n e => y.keep b u n (x.keep b u n e), y.there⟩
theorem Ot.same {o : Addr} {H H1 H2 : Hp} (x : Ot o H H1) (y : Same H1 H2) : Ot o H H2 := ⟨fun b u n e => y b u (x.keep b u n e), let ⟨u, e⟩ := x.there; ⟨u, y o u e⟩⟩
theorem Ot.free {o : Addr} {H H' : Hp} (x : Ot o H H') {a : Addr} (n : H' a = none) : H a = none := by
  cases e : H a with
  | none => rfl
  | some u =>
    by_cases z : a = o
    · obtain ⟨v, y⟩ := x.there
      rw [z, y] at n
      cases n
    · rw [x.keep a u z e] at n
      cases n
/-- the words stand at o, the place is a -/
structure WAt (C o : Addr) (H : Hp) (ws : List Str) (a : Nat) : Prop where
  hd : ∃ dx l, H o = some (.ins C dx [("words", .ref l), ("at", .int (a : Int))]) ∧ H l = some (.lst (ws.map V.str))
  le : a ≤ ws.length
theorem WAt.same {C o : Addr} {H H' : Hp} {ws : List Str} {a : Nat} (h : WAt C o H ws a) (s : Same H H') : WAt C o H' ws a := by
  obtain ⟨⟨dx, l, e1, e2⟩, le⟩ := h
  exact ⟨⟨dx, l, s _ _ e1, s _ _ e2⟩, le⟩
theorem WAt.ot {C o : Addr} {H H' : Hp} {ws : List Str} {a : Nat} (h : WAt C o H ws a) (s : Same H H') : Ot o H H' := by
  obtain ⟨⟨dx, l, e1, e2⟩, le⟩ := h
  exact ⟨fun b u _ e => s b u e, _, s _ _ e1⟩
theorem WAt.move {C o dx l : Addr} {H : Hp} {ws : List Str} {a b : Nat} (e1 : H o = some (.ins C dx [("words", .ref l), ("at", .int (a : Int))])) (e2 : H l = some (.lst (ws.map V.str))) (le : b ≤ ws.length) :
    WAt C o (upd H o (.ins C dx [("words", .ref l), ("at", .int (b : Int))])) ws b ∧ Ot o H (upd H o (.ins C dx [("words", .ref l), ("at", .int (b : Int))])) := by
  have n : l ≠ o := fun z => by
    rw [z, e1] at e2
    cases e2
  exact ⟨⟨⟨dx, l, upd_same, (upd_ne n).trans e2⟩, le⟩, ⟨fun b u nb e => (upd_ne nb).trans e, _, upd_same⟩⟩
/-- not too many words, none too long -/
structure SmQ (ws : List Str) : Prop where
  many : ws.length ≤ 4001
  part : ∀ x, PartOf ws x → WdOk x
theorem SmQ.wd {ws : List Str} (h : SmQ ws) {x : Str} (m : x ∈ ws) : WdOk x := h.part x ⟨x, m, List.infix_rfl⟩
/-- the answer of a reader of words from a on -/
def rdW {α : Type} (C o CE : Addr) (ws : List Str) (r : Option (α × Nat)) (H : Hp) (A : α → V → Hp → Prop) (Q : VK) (E : XK) : Prop :=
  (∀ y b, r = some (y, b) → ∀ v H', Ot o H H' → WAt C o H' ws b → A y v H' → Q v H') ∧ (r = none → ∀ H', Ot o H H' → E (.ref CE) none H')
def spWInit (C : Addr) : Sp := fun vs H Q _ => ∃ (e dx l : Addr), vs = [.ref e, .ref l] ∧ H e = some (.ins C dx []) ∧ (∀ H', (∀ b u, b ≠ e → H b = some u → H' b = some u) → H' e = some (.ins C dx [("words", .ref l), ("at", .int ((0 : Nat) : Int))]) → Q .non H')
def spEnded (C : Addr) : Sp := fun vs H Q _ => ∃ (o : Addr) (ws : List Str) (a : Nat), vs = [.ref o] ∧ WAt C o H ws a ∧ SmQ ws ∧ Q (.bl (decide (a = ws.length))) H
def spUpc (C : Addr) : Sp := fun vs H Q _ => ∃ (o : Addr) (ws : List Str) (a : Nat), vs = [.ref o] ∧ WAt C o H ws a ∧ SmQ ws ∧ Q (.str (upW ws a)) H
def spTake (C CE : Addr) : Sp := fun vs H Q E => ∃ (o : Addr) (ws : List Str) (a n : Nat), vs = [.ref o, .int (n : Int)] ∧ WAt C o H ws a ∧ SmQ ws ∧ n ≤ 1000 ∧
  rdW C o CE ws (if ((ws.drop a).take n).length < n then none else some ((ws.drop a).take n, a + n)) H (fun t v H' => ∃ p, v = .ref p ∧ H p = none ∧ H' p = some (.lst (t.map V.str))) Q E
def spPasses (C : Addr) : Sp := fun vs H Q _ => ∃ (o : Addr) (ws : List Str) (a : Nat) (x : Str), vs = [.ref o, .str x] ∧ WAt C o H ws a ∧ SmQ ws ∧ x ≠ "" ∧
  (ws[a]? = some x → ∀ H', Ot o H H' → WAt C o H' ws (a + 1) → Q (.bl true) H') ∧ (ws[a]? ≠ some x → Q (.bl false) H)
def spExpect (C CE : Addr) : Sp := fun vs H Q E => ∃ (o : Addr) (ws : List Str) (a : Nat) (x : Str), vs = [.ref o, .str x] ∧ WAt C o H ws a ∧ SmQ ws ∧ x ≠ "" ∧
  (ws[a]? = some x → ∀ H', Ot o H H' → WAt C o H' ws (a + 1) → Q .non H') ∧ (ws[a]? ≠ some x → E (.ref CE) none H)
structure TxtWd (K : PySem.W.Frag) (mg : Str → Option Value) (C fE fU fT fP fX fI : Addr) : Prop where
  cl : Cls K C
  nW : NoAttr K C "words"
  nA : NoAttr K C "at"
  gC : mg "Words" = some (.ref C)
  mE : Meth K C "ended" fE
  mU : Meth K C "upcoming" fU
  mT : Meth K C "take" fT
  mP : Meth K C "passes" fP
  mX : Meth K C "expect" fX
  mI : Meth K C "take_items" fI
theorem up_iff {ws : List Str} {a : Nat} {x : Str} (ne : x ≠ "") : upW ws a = x ↔ ws[a]? = some x := by
  unfold upW
  cases e : ws[a]? with
  | none =>
    constructor
    · intro z
      exact absurd z.symm ne
    · intro z
      cases z
  | some y => exact ⟨fun z => by rw [← z]; rfl, fun z => Option.some.inj z⟩
section
variable {P : Program} {w : World} {K : PySem.W.Frag} {mg : Str → Option Value} {base : Heap} {C CE fE fU fT fP fX fI : Addr}
theorem scWInit : FnScope ["self", "words"] ["self", "words"] (defScope sWInit) := ⟨rfl, rfl, rfl, by decide +kernel, rfl, by decide +kernel, by decide +kernel⟩
theorem ok_winit {f : Addr} {fd : FuncData} (F : Fun K "__init__" "Words.__init__" sWInit f fd) (T : TxtWd K mg C fE fU fT fP fX fI) : FnOk P w K mg base CX0 1 f fd ["self", "words"] (spWInit C) := by
  refine F.ok scWInit (fun vs H Q E h => ?_) (fun cdv A outer s H vs Q E hr h => ?_)
  · obtain ⟨e, dx, l, rfl, _⟩ := h
    rfl
  · obtain ⟨e, dx, l, rfl, he, k⟩ := h
    refine ⟨_, pss_cons (ps_fld (pv 0) (pv 1) rfl) (pss_one (ps_fld (pv 0) pe_int rfl)), ?_⟩
    refine ⟨_, rfl, _, rfl, e, C, dx, _, rfl, he, T.cl, T.nW, by decide, ?_⟩
    refine ⟨_, rfl, e, C, dx, _, rfl, upd_same, T.cl, T.nA, (by show 1 < 1000; decide), ?_⟩
    refine k _ (fun b u nb q => ?_) upd_same
    rw [upd_ne nb, upd_ne nb]
    exact q
theorem scEnded : FnScope ["self"] ["self"] (defScope sEnded) := ⟨rfl, rfl, rfl, by decide +kernel, rfl, by decide +kernel, by decide +kernel⟩
theorem ok_ended {f : Addr} {fd : FuncData} (F : Fun K "ended" "Words.ended" sEnded f fd) (T : TxtWd K mg C fE fU fT fP fX fI) (N : TxtN K mg) : FnOk P w K mg base CX0 1 f fd ["self"] (spEnded C) := by
  refine F.ok scEnded (fun vs H Q E h => ?_) (fun cdv A outer s H vs Q E hr h => ?_)
  · obtain ⟨o, ws, a, rfl, _⟩ := h
    rfl
  · obtain ⟨o, ws, a, rfl, ⟨⟨dx, l, e1, e2⟩, le⟩, sm, k⟩ := h
    refine ⟨_, pss_one (ps_ret (pe_cmpR op_eq (pe_fld (pv 0) rfl) (pe_callB call_len_seq (by rfl) N.len (by decide +kernel) (pa_cons (pe_fld (pv 0) rfl) pa_nil)) (nomark _))), ?_⟩
    refine ⟨_, rfl, o, C, dx, _, _, rfl, e1, T.cl, T.nA, rfl, ?_⟩
    refine ⟨_, rfl, o, C, dx, _, _, rfl, e1, T.cl, T.nW, rfl, l, _, rfl, .inl (SqL.of e2), rfl, ?_⟩
    rw [List.length_map]
    have e : decide (V.int (a : Int) = V.int ((ws.length : Nat) : Int)) = decide (a = ws.length) := by
      rw [Bool.eq_iff_iff, decide_eq_true_iff, decide_eq_true_iff]
      exact ⟨fun z => by have := V.int.inj z; omega, fun z => by rw [z]⟩
    rw [e]
    exact k
theorem scUpc : FnScope ["self"] ["self"] (defScope sUpc) := ⟨rfl, rfl, rfl, by decide +kernel, rfl, by decide +kernel, by decide +kernel⟩
theorem ok_upc {f : Addr} {fd fdE : FuncData} (F : Fun K "upcoming" "Words.upcoming" sUpc f fd) (T : TxtWd K mg C fE fU fT fP fX fI) (GE : FnOk P w K mg base CX0 1 fE fdE ["self"] (spEnded C)) (bE : Binds K fdE ["self"] []) :
    FnOk P w K mg base CX0 2 f fd ["self"] (spUpc C) := by
  refine F.ok scUpc (fun vs H Q E h => ?_) (fun cdv A outer s H vs Q E hr h => ?_)
  · obtain ⟨o, ws, a, rfl, _⟩ := h
    rfl
  · obtain ⟨o, ws, a, rfl, wa, sm, k⟩ := h
    refine ⟨_, pss_one (ps_ret (pe_ifExp (pt_val (pe_meth0 (pv 0) T.cl T.mE GE hr bE .nil pass0)) pe_str (pe_ix ix_list (pe_fld (pv 0) rfl) (pe_fld (pv 0) rfl) (fun _ _ => rfl)))), ?_⟩
    obtain ⟨⟨dx, l, e1, e2⟩, le⟩ := id wa
    refine ⟨_, rfl, o, dx, _, rfl, e1, rfl, o, ws, a, rfl, wa, sm, _, rfl, ?_⟩
    by_cases z : a = ws.length
    · rw [decide_eq_true z]
      refine iteT ?_
      have e : upW ws a = "" := by
        unfold upW
        rw [z, List.getElem?_eq_none (Nat.le_refl _)]
        rfl
      rw [e] at k
      exact k
    · rw [decide_eq_false z]
      refine iteF ?_
      have lt : a < ws.length := by omega
      have e : ws[a]? = some (upW ws a) := by
        unfold upW
        rw [List.getElem?_eq_getElem lt]
        rfl
      refine ⟨_, rfl, o, C, dx, _, _, rfl, e1, T.cl, T.nW, rfl, ?_⟩
      refine ⟨_, rfl, o, C, dx, _, _, rfl, e1, T.cl, T.nA, rfl, l, _, _, _, rfl, rfl, SqL.of e2, atI_nat (v := .str (upW ws a)) (by rw [List.getElem?_map, e]; rfl), k⟩
theorem scTake : FnScope ["self", "count", "taken"] ["self", "count"] (defScope sTake) := ⟨rfl, rfl, rfl, by decide +kernel, rfl, by decide +kernel, by decide +kernel⟩
theorem cut_at (ws : List Str) (a n : Nat) (le : a ≤ ws.length) : cutV (ws.map V.str) (some (a : Int)) (some ((a : Int) + (n : Int))) = ((ws.drop a).take n).map V.str := by
  have e1 : HT.sIx (ws.map V.str).length 0 (some (a : Int)) = min a ws.length := by
    rw [HT.sIx_nat, List.length_map]
  have e2 : HT.sIx (ws.map V.str).length (ws.map V.str).length (some ((a : Int) + (n : Int))) = min (a + n) ws.length := by
    have z : (a : Int) + (n : Int) = ((a + n : Nat) : Int) := by omega
    rw [z, HT.sIx_nat, List.length_map]
  unfold cutV
  rw [e1, e2, ← List.map_drop, ← List.map_take]
  have m : min a ws.length = a := by omega
  rw [m]
  congr 1
  by_cases z : a + n ≤ ws.length
  · rw [show min (a + n) ws.length - a = n by omega]
  · rw [List.take_of_length_le (i := min (a + n) ws.length - a) (by rw [List.length_drop]; omega), List.take_of_length_le (i := n) (by rw [List.length_drop]; omega)]
theorem ok_take {f : Addr} {fd : FuncData} (F : Fun K "take" "Words.take" sTake f fd) (T : TxtWd K mg C fE fU fT fP fX fI) (N : TxtN K mg) (Z : TxtX K mg CE) : FnOk P w K mg base (L2.CX P w) 1 f fd ["self", "count"] (spTake C CE) := by
  refine F.okX scTake (fun vs H Q E h => ?_) (fun cdv A outer s H vs Q E hr h => ?_)
  · obtain ⟨o, ws, a, n, rfl, _⟩ := h
    rfl
  · obtain ⟨o, ws, a, n, rfl, wa, sm, hn, yes, no⟩ := h
    refine ⟨_, pss_cons (ps_set (i := 2) scTake.nd rfl (Or.inl rfl) (pe_slice sl_list (pe_fld (pv 0) rfl) (po_some (pe_fld (pv 0) rfl)) (po_some (pe_op op_add (pe_fld (pv 0) rfl) (pv 1)))))
      (pss_cons (ps_if (pt_cmpR op_lt (pe_callB call_len_seq (by rfl) N.len (by decide +kernel) (pa_cons (pv 2) pa_nil)) (pv 1) (nomark _)) (pss_one (ps_raise rfl (takes_of rfl rfl rfl rfl) (pmk_ret rfl (pe_xbare PySem.F.excBase_ValueError Z.x Z.g Z.k rfl)))) pss_nil)
      (pss_cons (ps_fld (pv 0) (pe_op op_add (pe_fld (pv 0) rfl) (pv 1)) rfl)
      (pss_one (ps_ret (pv 2))))), ?_⟩
    have many := sm.many
    obtain ⟨⟨dx, l, e1, e2⟩, le⟩ := id wa
    refine ⟨_, rfl, o, C, dx, _, _, rfl, e1, T.cl, T.nW, rfl, ?_⟩
    refine ⟨_, rfl, o, C, dx, _, _, rfl, e1, T.cl, T.nA, rfl, _, rfl, ?_⟩
    refine ⟨_, rfl, o, C, dx, _, _, rfl, e1, T.cl, T.nA, rfl, _, rfl, _, _, rfl, rfl, _, rfl, l, _, rfl, SqL.of e2, fun p hp => ?_⟩
    rw [cut_at ws a n le]
    have l1 := List.length_take_le n (ws.drop a)
    have l2 : ((ws.drop a).take n).length = min n (ws.length - a) := by rw [List.length_take, List.length_drop]
    generalize (ws.drop a).take n = t at yes no l1 l2 ⊢
    have s1 := same_upd (o := .lst (t.map V.str)) hp
    have e3 : upd H p (.lst (t.map V.str)) p = some (.lst (t.map V.str)) := upd_same
    show tSeq _ _ _ _ (upd H p (.lst (t.map V.str)))
    generalize upd H p (.lst (t.map V.str)) = H1 at s1 e3 ⊢
    have e11 := s1 _ _ e1
    have e21 := s1 _ _ e2
    refine ⟨_, rfl, p, _, rfl, .inl (SqL.of e3), _, rfl, _, _, rfl, rfl, _, rfl, ?_⟩
    rw [List.length_map]
    refine ite_ (fun lt => ?_) (fun lt => ?_)
    · have lt : t.length < n := by omega
      rw [if_pos lt] at no
      exact bad_of Z.b Z.t (fun a na => s1.free na) (no rfl H1 (wa.ot s1))
    · have ge : ¬ t.length < n := by omega
      rw [if_neg ge] at yes
      refine ⟨_, rfl, o, C, dx, _, _, rfl, e11, T.cl, T.nA, rfl, _, rfl, _, _, rfl, rfl, ?_⟩
      refine ⟨_, rfl, o, C, dx, _, rfl, e11, T.cl, T.nA, (by show 2 < 1000; decide), ?_⟩
      obtain ⟨w2, o2⟩ := WAt.move (a := a) (b := a + n) e11 e21 (by omega)
      have np : p ≠ o := fun z => by
        rw [z, e11] at e3
        cases e3
      refine ⟨_, rfl, yes t (a + n) rfl _ _ ((wa.ot s1).trans ?_) ?_ ⟨p, rfl, hp, ?_⟩⟩
      · exact o2
      · exact w2
      · exact (upd_ne np).trans e3
theorem scPasses : FnScope ["self", "word"] ["self", "word"] (defScope sPasses) := ⟨rfl, rfl, rfl, by decide +kernel, rfl, by decide +kernel, by decide +kernel⟩
theorem ok_passes {f : Addr} {fd fdU : FuncData} (F : Fun K "passes" "Words.passes" sPasses f fd) (T : TxtWd K mg C fE fU fT fP fX fI) (GU : FnOk P w K mg base CX0 2 fU fdU ["self"] (spUpc C)) (bU : Binds K fdU ["self"] []) :
    FnOk P w K mg base CX0 3 f fd ["self", "word"] (spPasses C) := by
  refine F.ok scPasses (fun vs H Q E h => ?_) (fun cdv A outer s H vs Q E hr h => ?_)
  · obtain ⟨o, ws, a, x, rfl, _⟩ := h
    rfl
  · obtain ⟨o, ws, a, x, rfl, wa, sm, ne, yes, no⟩ := h
    obtain ⟨⟨dx, l, e1, e2⟩, le⟩ := id wa
    refine ⟨_, pss_cons (ps_if (pt_cmpR op_ne (pe_meth0 (pv 0) T.cl T.mU GU hr bU .nil pass0) (pv 1) (nomark _)) (pss_one (ps_ret pe_bl)) pss_nil)
      (pss_cons (ps_fld (pv 0) (pe_op op_add (pe_fld (pv 0) rfl) pe_int) rfl) (pss_one (ps_ret pe_bl))), ?_⟩
    refine ⟨_, rfl, o, dx, _, rfl, e1, rfl, o, ws, a, rfl, wa, sm, _, rfl, rfl, _, rfl, ?_⟩
    refine iteB (fun c => ?_) (fun c => ?_)
    · refine no fun z => ?_
      have z := (up_iff ne).mpr z
      rw [z] at c
      have q : decide (V.str x = V.str x) = true := decide_eq_true rfl
      rw [q] at c
      cases c
    · have z : upW ws a = x := by
        cases q : decide (V.str (upW ws a) = V.str x) with
        | true => exact V.str.inj (of_decide_eq_true q)
        | false =>
          rw [q] at c
          cases c
      have z := (up_iff ne).mp z
      have lt := get_lt z
      refine ⟨_, rfl, o, C, dx, _, _, rfl, e1, T.cl, T.nA, rfl, _, _, rfl, rfl, ?_⟩
      refine ⟨_, rfl, o, C, dx, _, rfl, e1, T.cl, T.nA, (by show 2 < 1000; decide), ?_⟩
      obtain ⟨w2, o2⟩ := WAt.move (a := a) (b := a + 1) e1 e2 (by omega)
      exact yes z _ o2 w2
theorem scExpect : FnScope ["self", "word"] ["self", "word"] (defScope sExpect) := ⟨rfl, rfl, rfl, by decide +kernel, rfl, by decide +kernel, by decide +kernel⟩
theorem ok_expect {f : Addr} {fd fdP : FuncData} (F : Fun K "expect" "Words.expect" sExpect f fd) (T : TxtWd K mg C fE fU fT fP fX fI) (Z : TxtX K mg CE) (GP : FnOk P w K mg base CX0 3 fP fdP ["self", "word"] (spPasses C)) (bP : Binds K fdP ["self", "word"] []) :
    FnOk P w K mg base (L2.CX P w) 4 f fd ["self", "word"] (spExpect C CE) := by
  refine F.okX scExpect (fun vs H Q E h => ?_) (fun cdv A outer s H vs Q E hr h => ?_)
  · obtain ⟨o, ws, a, x, rfl, _⟩ := h
    rfl
  · obtain ⟨o, ws, a, x, rfl, wa, sm, ne, yes, no⟩ := h
    obtain ⟨⟨dx, l, e1, e2⟩, le⟩ := id wa
    refine ⟨_, pss_one (ps_if (pt_not (pt_val (pe_meth (pv 0) T.cl T.mP GP hr bP .nil pass0 (pa_cons (pv 1) pa_nil)))) (pss_one (ps_raise rfl (takes_of rfl rfl rfl rfl) (pmk_ret rfl (pe_xbare PySem.F.excBase_ValueError Z.x Z.g Z.k rfl)))) pss_nil), ?_⟩
    refine ⟨_, rfl, o, dx, _, rfl, e1, rfl, _, rfl, o, ws, a, x, rfl, wa, sm, ne, fun z H1 o1 w1 => ?_, fun z => ?_⟩
    · exact ⟨_, rfl, iteF (yes z H1 o1 w1)⟩
    · exact ⟨_, rfl, iteT (bad_of Z.b Z.t (fun a na => na) (no z))⟩
end
end Vm
/-! the program's Words.take_items -/
namespace Vm
open PySem PySem.Spec PyProof.Rows L2 TL StX
/-- lists of texts stand at ls -/
abbrev LsAt (H : Hp) (ls : List Addr) (ts : List (List Str)) : Prop := PySem.W.EachIs (fun l t => H l = some (.lst (t.map V.str))) ls ts
theorem each_imp {α β : Type} {R S : α → β → Prop} (k : ∀ x y, R x y → S x y) : ∀ {a : List α} {b : List β}, PySem.W.EachIs R a b → PySem.W.EachIs S a b
  | _, _, .nil => .nil
  | _, _, .cons h t => .cons (k _ _ h) (each_imp k t)
theorem each_imp_mem {α β : Type} {R S : α → β → Prop} : ∀ {a : List α} {b : List β}, PySem.W.EachIs R a b → (∀ x ∈ a, ∀ y, R x y → S x y) → PySem.W.EachIs S a b
  | _, _, .nil, _ => .nil
  | _, _, .cons h t, k => .cons (k _ List.mem_cons_self _ h) (each_imp_mem t fun x m y r => k x (List.mem_cons_of_mem _ m) y r)
theorem each_len {α β : Type} {R : α → β → Prop} : ∀ {a : List α} {b : List β}, PySem.W.EachIs R a b → a.length = b.length
  | _, _, .nil => rfl
  | _, _, .cons h t => congrArg (· + 1) (each_len t)
def glue {α : Type} (ts : List α) (r : Option (List α × Nat)) : Option (List α × Nat) := r.map fun p => (ts ++ p.1, p.2)
theorem glue_nil {α : Type} (r : Option (List α × Nat)) : glue [] r = r := by
  cases r with
  | none => rfl
  | some p => rfl
def spItems (C CE : Addr) : Sp := fun vs H Q E => ∃ (o : Addr) (ws : List Str) (a n : Nat), vs = [.ref o, .int (n : Int)] ∧ WAt C o H ws a ∧ SmQ ws ∧ 1 ≤ n ∧ n ≤ 1000 ∧
  rdW C o CE ws (ents some ws n a) H (fun ts v H' => ∃ p ls, v = .ref p ∧ H' p = some (.lst (ls.map V.ref)) ∧ LsAt H' ls ts) Q E
theorem cut_but (t : List Str) : cutV (t.map V.str) none (some (-1)) = t.dropLast.map V.str := by
  have e2 : HT.sIx (t.map V.str).length (t.map V.str).length (some (-1)) = t.length - 1 := by
    rw [sIx_neg1, List.length_map]
  unfold cutV
  rw [e2]
  show ((t.map V.str).drop 0).take (t.length - 1 - 0) = _
  rw [List.drop_zero, Nat.sub_zero, List.dropLast_eq_take, List.map_take]
theorem at_last {t : List Str} (ne : t ≠ []) : atI (t.map V.str) (-1) = some (.str (t.getLastD "")) := by
  have e : t.map V.str = t.dropLast.map V.str ++ [.str (t.getLastD "")] := by
    conv => lhs; rw [← List.dropLast_concat_getLast ne]
    rw [List.map_append, List.getLastD_eq_getLast?, List.getLast?_eq_some_getLast ne]
    rfl
  rw [e]
  exact atI_last _ _
section
variable {P : Program} {w : World} {K : PySem.W.Frag} {mg : Str → Option Value} {base : Heap} {C CE fE fU fT fP fX fI : Addr}
theorem scItems : FnScope ["self", "size", "items", "more", "taken"] ["self", "size"] (defScope sItems) := ⟨rfl, rfl, rfl, by decide +kernel, rfl, by decide +kernel, by decide +kernel⟩
theorem ok_items {f : Addr} {fd fdT : FuncData} (F : Fun K "take_items" "Words.take_items" sItems f fd) (T : TxtWd K mg C fE fU fT fP fX fI) (GT : FnOk P w K mg base (L2.CX P w) 1 fT fdT ["self", "count"] (spTake C CE)) (bT : Binds K fdT ["self", "count"] []) :
    FnOk P w K mg base (L2.CX P w) 2 f fd ["self", "size"] (spItems C CE) := by
  refine F.okX scItems (fun vs H Q E h => ?_) (fun cdv A outer s H vs Q E hr h => ?_)
  · obtain ⟨o, ws, a, n, rfl, _⟩ := h
    rfl
  · obtain ⟨o, ws, a, n, rfl, wa, sm, n1, n2, yes, no⟩ := h
    refine ⟨_, pss_cons (ps_set (i := 2) scItems.nd rfl (Or.inl rfl) (pe_lst pa_nil))
      (pss_cons (ps_set (i := 3) scItems.nd rfl (Or.inl rfl) pe_bl)
      (pss_cons (ps_while PassesOwn.leaving (pt_val (pv 3))
        (pss_cons (ps_set (i := 4) scItems.nd rfl (Or.inl rfl) (pe_meth (E := E) (pv 0) T.cl T.mT GT hr bT .nil (passes_call (takes_of rfl rfl rfl rfl) (fun _ _ _ _ h => h)) (pa_cons (pv 1) pa_nil)))
        (pss_cons (ps_set (i := 3) scItems.nd rfl (Or.inl rfl) (pe_bm PySem.F.plainAttrs_str PySem.F.slot_str_endswith PySem.F.type_str_endswith mt_endswith (pe_ix ix_list (pv 4) (pe_un un_neg pe_int) (fun _ _ => rfl)) (pa_cons pe_str pa_nil)))
        (pss_one (ps_expr (pe_bm PySem.F.plainAttrs_list PySem.F.slot_list_append PySem.F.type_list_append mt_append (pv 2) (pa_cons (pe_lst (pa_star (pe_slice sl_list (pv 4) po_none (po_some (pe_un un_neg pe_int)))
          (pa_cons (pe_bm PySem.F.plainAttrs_str PySem.F.slot_str_removesuffix PySem.F.type_str_removesuffix mt_removesuffix (pe_ix ix_list (pv 4) (pe_un un_neg pe_int) (fun _ _ => rfl)) (pa_cons pe_str pa_nil)) pa_nil))) pa_nil)))))))
      (pss_one (ps_ret (pv 2))))), ?_⟩
    have many := sm.many
    have big : sizeLine > 1000000 := by decide
    refine ⟨Nat.zero_le _, fun D hD => ?_⟩
    have s1 := same_upd (o := .lst []) hD
    have e1 : upd H D (.lst []) D = some (.lst []) := upd_same
    have oD : D ≠ o := fun z => by
      obtain ⟨dx, l, e, _⟩ := wa.hd
      rw [z, e] at hD
      cases hD
    generalize upd H D (.lst []) = H1 at s1 e1 ⊢
    refine ⟨fun m σ H' => ∃ (a' : Nat) (ts : List (List Str)) (ls : List Addr) (more : Bool) (v4 : Option V), σ = [some (.ref o), some (.int n), some (.ref D), some (.bl more), v4] ∧ Ot o H H' ∧ WAt C o H' ws a' ∧ H' D = some (.lst (ls.map V.ref)) ∧ LsAt H' ls ts ∧ (∀ l ∈ ls, l ≠ D) ∧ ls.length ≤ a' ∧
        m = ws.length - a' + (if more = true then 1 else 0) ∧ (if more = true then ents some ws n a = glue ts (ents some ws n a') else ents some ws n a = some (ts, a')),
      ⟨_, a, [], [], true, none, rfl, wa.ot s1, wa.same s1, e1, .nil, (fun _ m => nomatch m), Nat.zero_le _, rfl, by rw [if_pos rfl, glue_nil]⟩, ?_⟩
    rintro m σ H2 ⟨a', ts, ls, more, v4, rfl, o2, w2, e2, L2', nD, ll, em, er⟩
    refine ⟨_, rfl, _, rfl, ?_⟩
    cases more with
    | false =>
      rw [if_neg (by decide)] at er
      refine iteF ?_
      exact ⟨_, rfl, yes ts a' er _ _ o2 w2 ⟨D, ls, rfl, e2, L2'⟩⟩
    | true =>
      rw [if_pos rfl] at er
      rw [if_pos rfl] at em
      refine iteT ?_
      have st := ents_step some ws (show 0 < n by omega) a'
      refine ⟨fun σ' H' => ∃ m', m' < m ∧ ∃ (a' : Nat) (ts : List (List Str)) (ls : List Addr) (more : Bool) (v4 : Option V), σ' = [some (.ref o), some (.int n), some (.ref D), some (.bl more), v4] ∧ Ot o H H' ∧ WAt C o H' ws a' ∧ H' D = some (.lst (ls.map V.ref)) ∧ LsAt H' ls ts ∧ (∀ l ∈ ls, l ≠ D) ∧ ls.length ≤ a' ∧
        m' = ws.length - a' + (if more = true then 1 else 0) ∧ (if more = true then ents some ws n a = glue ts (ents some ws n a') else ents some ws n a = some (ts, a')), fun _ _ z => z, ?_⟩
      obtain ⟨⟨dx, l, f1, f2⟩, le2⟩ := id w2
      refine ⟨_, rfl, o, dx, _, rfl, f1, rfl, _, rfl, o, ws, a', n, rfl, w2, sm, n2, fun t b et v H3 o3 w3 ⟨p, ev, np, ep⟩ => ?_, fun et H3 o3 => ?_⟩
      rotate_left
      · have z : ((ws.drop a').take n).length < n := by
          by_cases z : ((ws.drop a').take n).length < n
          · exact z
          · rw [if_neg z] at et
            cases et
        rw [if_pos z] at st
        refine no ?_ H3 (o2.trans o3)
        rw [er, st]
        rfl
      have z : ¬ ((ws.drop a').take n).length < n := fun z => by
        rw [if_pos z] at et
        cases et
      rw [if_neg z] at et
      have et := Option.some.inj et
      injection et with et1 et2
      subst et1 et2 ev
      rw [if_neg z] at st
      have ln : ((ws.drop a').take n).length = n := by
        have := List.length_take_le n (ws.drop a')
        omega
      have ne : (ws.drop a').take n ≠ [] := fun q => by
        rw [q] at ln
        have : 0 = n := ln
        omega
      have mem : ((ws.drop a').take n).getLastD "" ∈ ws := by
        rw [List.getLastD_eq_getLast?, List.getLast?_eq_some_getLast ne]
        exact List.mem_of_mem_drop (List.mem_of_mem_take (List.getLast_mem ne))
      have lw := (sm.wd mem).len
      have le3 := w3.le
      generalize (ws.drop a').take n = t at z st ln ne mem ep lw ⊢
      have e3 : H3 D = some (.lst (ls.map V.ref)) := o3.keep D _ oD e2
      have L3 : LsAt H3 ls ts := each_imp_mem L2' fun x m y r => o3.keep x _ (fun q => by
        rw [q] at r
        rw [r] at f1
        cases f1) r
      have pD : p ≠ D := fun q => by
        rw [q, e2] at np
        cases np
      dsimp only at st
      have few : ls.length ≤ 4001 := by omega
      refine ⟨_, rfl, _, rfl, p, _, _, _, rfl, rfl, SqL.of ep, at_last ne, rfl, _, _, rfl, rfl, ?_⟩
      refine ⟨_, rfl, .inl ⟨rfl, _, SqL.of e3⟩, ?_⟩
      refine ⟨_, rfl, _, rfl, _, rfl, p, _, rfl, SqL.of ep, fun q hq => ?_⟩
      rw [cut_but]
      have s4 := same_upd (o := .lst (t.dropLast.map V.str)) hq
      have e4 : upd H3 q (.lst (t.dropLast.map V.str)) q = some (.lst (t.dropLast.map V.str)) := upd_same
      generalize upd H3 q (.lst (t.dropLast.map V.str)) = H4 at s4 e4 ⊢
      refine ⟨q, _, rfl, .inr (SqL.of e4), ?_⟩
      refine ⟨_, rfl, _, rfl, p, _, _, _, rfl, rfl, SqL.of (s4 _ _ ep), at_last ne, rfl, _, _, rfl, rfl, by omega, ?_⟩
      have ev : t.dropLast.map V.str ++ ([V.str (Txt.removesuffix (t.getLastD "") ",")] ++ []) = (entW t).map V.str := by
        unfold entW
        rw [List.map_append, List.append_nil]
        rfl
      have lent : (entW t).length = t.length := entW_len ne
      refine ⟨by
        show (t.dropLast.map V.str ++ ([V.str (Txt.removesuffix (t.getLastD "") ",")] ++ [])).length ≤ sizeLine
        rw [ev, List.length_map, lent]
        omega, fun x hx => ?_⟩
      have s5 := same_upd (o := .lst ((entW t).map V.str)) hx
      have e5 : upd H4 x (.lst ((entW t).map V.str)) x = some (.lst ((entW t).map V.str)) := upd_same
      have eh : upd H4 x (.lst (t.dropLast.map V.str ++ ([V.str (Txt.removesuffix (t.getLastD "") ",")] ++ []))) = upd H4 x (.lst ((entW t).map V.str)) := by rw [ev]
      have s34 := s4.trans s5
      have eD5 := s34 _ _ e3
      have w5 : WAt C o (upd H4 x (.lst ((entW t).map V.str))) ws (a' + n) := w3.same s34
      have L5 : LsAt (upd H4 x (.lst ((entW t).map V.str))) ls ts := each_imp (fun y z r => s34 _ _ r) L3
      have o5 : Ot o H (upd H4 x (.lst ((entW t).map V.str))) := (o2.trans o3).same s34
      have xD : x ≠ D := fun z => by
        have y := s4 _ _ e3
        rw [← z, hx] at y
        cases y
      refine ⟨D, ls.map V.ref, _, rfl, rfl, ?_, by rw [List.length_map]; omega, ?_⟩
      · exact (congrFun eh D).trans eD5
      show ∃ m', _
      have eh2 : upd H4 x (.lst (t.dropLast.map V.str ++ [V.str (Txt.removesuffix (t.getLastD "") ",")])) = upd H4 x (.lst ((entW t).map V.str)) := by
        rw [← ev, List.append_nil]
      rw [eh2]
      generalize upd H4 x (.lst ((entW t).map V.str)) = H5 at s5 e5 eD5 w5 L5 o5 ⊢
      have fin : ∀ {y : Addr} {u : HO}, y ≠ D → H5 y = some u → upd H5 D (.lst (ls.map V.ref ++ [V.ref x])) y = some u := fun n e => (upd_ne n).trans e
      refine ⟨ws.length - (a' + n) + (if isCm (t.getLastD "") = true then 1 else 0), ?_, a' + n, ts ++ [entW t], ls ++ [x], isCm (t.getLastD ""), some (.ref p), rfl, ⟨fun b u nb e => ?_, ?_⟩, ?_, ?_, ?_, ?_, ?_, rfl, ?_⟩
      · split <;> omega
      · exact fin (fun z => by rw [z, hD] at e; cases e) (o5.keep b u nb e)
      · obtain ⟨u, e⟩ := o5.there
        exact ⟨u, fin oD.symm e⟩
      · obtain ⟨⟨dx5, l5, g1, g2⟩, le5⟩ := w5
        exact ⟨⟨dx5, l5, fin oD.symm g1, fin (fun z => by
          rw [z, eD5] at g2
          have y := Option.some.inj g2
          injection y with y
          have ly := congrArg List.length y
          rw [List.length_map, List.length_map] at ly
          cases ws with
          | nil =>
            have : a' + n ≤ 0 := le5
            omega
          | cons w0 wr =>
            cases ls with
            | nil => cases ly
            | cons l0 lr =>
              injection y with y1 _
              cases y1) g2⟩, le5⟩
      · rw [upd_same, List.map_append]
        rfl
      · refine each_append (each_imp_mem L5 fun y m z r => fin (nD y m) r) (.cons (fin xD e5) .nil)
      · intro y m
        rcases List.mem_append.mp m with m | m
        · exact nD y m
        · rw [List.mem_singleton.mp m]
          exact xD
      · rw [List.length_append]
        show ls.length + 1 ≤ a' + n
        omega
      · rw [er, st]
        cases c : isCm (t.getLastD "") with
        | false =>
          rw [if_neg (by decide), if_neg (by decide)]
          rfl
        | true =>
          rw [if_pos rfl, if_pos rfl]
          cases ents some ws n (a' + n) with
          | none => rfl
          | some q =>
            obtain ⟨us, b⟩ := q
            show some (ts ++ (entW t :: us), b) = some ((ts ++ [entW t]) ++ us, b)
            rw [List.append_assoc]
            rfl
end
end Vm
/-! a list comprehension whose element may raise (out of a call) -/
namespace Vm
open PySem PySem.Spec PyProof.Rows L2

section
variable {M : Model} {A : Around} {E : Value → Shared → Prop} {s : Shared} {Z : Obj → Prop} {base : Heap} {l : List Env} {L e : Addr} {fl : Value}
/-- the frame L takes the exception up again -/
theorem fly_here {Q : Unit → Shared → Prop} (b0 : base.StaysIn s.heap) (f0 : s.heap.FunFrames base l) (t0 : HandSPX.TracedZ s.heap base e Z fl)
    (q : ∀ h', base.StaysIn h' → h'.FunFrames base l → HandSPX.TracedZ h' base e Z (rawInt L) → s.heap.UpToSlots h' → Q () { s with heap := h' }) :
    wpAny M A (setFlight (.ref e) (some L)) Q E s := by
  obtain ⟨oe, vs, T, oT, ts, ge, z, de, v1, nT, ne, gT, dT, t3⟩ := t0
  let up : Obj → Obj := Obj.mapFields (·.setIfInBounds 3 (rawInt L))
  have off : ∀ b, b ≠ T → (s.heap.update T up).get? b = s.heap.get? b := fun b nb => Heap.get?_update_other _ _ fun y => nb y.symm
  have noT : ∀ b o, s.heap.get? b = some o → (∀ ws, o.data ≠ .fields ws) → b ≠ T := fun b o g nf y => nf ts (by
    rw [y, gT] at g
    rw [← Option.some.inj g]
    exact dT)
  have sz : 3 < ts.size := (Array.getElem?_eq_some_iff.mp t3).1
  have new := Heap.get?_update_self up gT (Obj.isFreed_of_fields (Obj.data_mapFields dT _))
  unfold setFlight
  refine wpAny_bind (wpAny_field ge de v1 ?_)
  have tr : (Value.ref T != Value.none) = true := by simp
  rw [tr]
  refine wpAny_setField gT dT sz (q _ (fun b o g => (off b fun y => ?_).trans (b0 b o g)) (f0.of_keeps fun b o g nf => ⟨o, (off b (noT b o g nf)).trans g, rfl⟩) ?_ fun b o g nf => ⟨o.slots, (off b (noT b o g nf)).trans g⟩)
  · rw [y, nT] at g
    cases g
  · exact ⟨oe, vs, T, _, _, (off e fun y => ne y.symm).trans ge, z, de, v1, nT, ne, new, Obj.data_mapFields dT _, by simp [sz]⟩
theorem TracedZ.but {h h' base' : Heap} {C : Addr} {m : Str → Option Value} (t : HandSPX.TracedZ h base e Z fl) (hn : h.Ns C m) (hs : Heap.SameBut C h h') (hb : ∀ b, base.get? b = none → base'.get? b = none) : HandSPX.TracedZ h' base' e Z fl := by
  obtain ⟨oe, vs, T, oT, ts, he, hz, hd, h1, hnT, hTe, hT, hdT, h3⟩ := t
  obtain ⟨oC, es, ep, hC, hdC, _⟩ := hn
  have nC : ∀ b o vs, h.get? b = some o → o.data = .fields vs → b ≠ C := fun b o vs q z w => by
    rw [w, hC] at q
    have q := Option.some.inj q
    subst q
    rw [hdC] at z
    cases z
  exact ⟨oe, vs, T, oT, ts, (hs.2 _ (nC _ _ _ he hd)).trans he, hz, hd, h1, hb _ hnT, hTe, (hs.2 _ (nC _ _ _ hT hdT)).trans hT, hdT, h3⟩
end

section
variable {X : Cx} {pins : List (Addr × Obj)} {σ : L2.St} {H : Hp} {s : Shared}
theorem blk_x {fp : List Addr} {scope : Scope} {ce : Env} {xe : Value → Shared → Prop} {H3 H5 : Hp} {s3 s5 : Shared} {σ5 : L2.St} (I : Inv (X.blk s3 H3 scope ce fp) pins σ5 H5 s5) : Inv ((X.blk s3 H3 scope ce fp).tr [] xe) pins σ5 H5 s5 :=
  ⟨I.ok.toTry _ _, I.os, I.bare, I.base, I.loc, I.cell, I.free, I.freeC, fun p hp => I.pin p hp, I.hok, I.len⟩
/-- an exception that left a call in the block goes on out of the comprehension -/
theorem comp_raise {W : WX} {E : XK} {fp : List Addr} {scope : Scope} {ce : Env} {xb : Value → Shared → Prop} {H3 H5 : Hp} {s3 s5 s' : Shared} {σ5 : L2.St} {pn5 : List (Addr × Obj)} {u : Value}
    (hs : X.stack = X.env :: X.outer) (hf : X.env.frame = some X.env.locals) (tk : Takes X W) (hW : ∀ cls d H, E cls d H → W cls d σ H)
    (I3 : Inv X pins σ H3 s3) (f3 : ∀ b ∈ fp, FpOk X pins H3 b ∧ b < s3.heap.objs.size) (cL : ce.locals = s3.heap.objs.size) (cf : ce.frame = X.env.frame)
    (I5 : Inv ((X.blk s3 H3 scope ce fp).tr [] xb) pn5 σ5 H5 s5) (c : L2.CX X.prog X.w X.stack H5 s5 E u s') :
    notedBy (model X.prog X.w) X.A ce (CompFails (model X.prog X.w) X.A X.xe ce) u s' := by
  obtain ⟨a, B, H', cls, d, rfl, fl, hok, ub, na, os, ag, hE⟩ := c
  have hfr : X.A.frames = some (X.env :: X.outer) := by rw [I3.ok.frames, hs]
  have st : B.StaysIn s'.heap := fl.1
  -- the block's dict
  obtain ⟨m5, hn5, _⟩ := I5.loc
  have hn5 : s5.heap.Ns ce.locals m5 := hn5
  have free5 : H5 ce.locals = none := I5.free
  have nfC : ce.locals ∉ frs X.stack := fun z => by
    obtain ⟨_, o, ho, _⟩ := I3.stack.mem z
    have q := Heap.lt_size ho
    rw [cL] at q
    exact absurd q (Nat.lt_irrefl _)
  obtain ⟨oC, es, ep, hC, hdC, hk⟩ := hn5
  have hCB : B.get? ce.locals = some oC := ub.keep _ _ hC free5 nfC
  have HC : H' ce.locals = none := ub.free _ _ hC free5
  show wpAny (model X.prog X.w) X.A (noteFrame (.ref a) ce) _ _ s'
  rw [noteFrame_env _ cf]
  rw [hs] at fl
  refine HandSPX.looks_onZ Zc.steady hfr hf fl fun h1 held up1 => ?_
  obtain ⟨b1, b0, f1, t1⟩ := held
  have hn1 : h1.Ns ce.locals m5 := ⟨oC, es, ep, b1 _ _ hCB, hdC, hk⟩
  refine ⟨m5, hn1, fun h2 m2 hn2 hs2 => ?_⟩
  -- the ground without the block's dict
  obtain ⟨B2, g1, g2⟩ := restrict B fun b => decide (b ≠ ce.locals)
  have sub : ∀ b o, B2.get? b = some o → B.get? b = some o ∧ b ≠ ce.locals := fun b o q => by
    by_cases z : b = ce.locals
    · rw [g2 b (by simp [z])] at q
      cases q
    · rw [g1 b (by simp [z])] at q
      exact ⟨q, z⟩
  have sup : ∀ b o, B.get? b = some o → b ≠ ce.locals → B2.get? b = some o := fun b o q z => by
    rw [g1 b (by simp [z])]
    exact q
  have nsub : ∀ b, B.get? b = none → B2.get? b = none := fun b q => by
    cases z : B2.get? b with
    | none => rfl
    | some o =>
      rw [(sub b o z).1] at q
      cases q
  have b2 : B2.StaysIn h2 := fun b o q => (hs2.2 b (sub b o q).2).trans (b1 b o (sub b o q).1)
  have f2 : h2.FunFrames B2 (X.env :: X.outer) := funFrames_none (Heap.FunFrames.sameBut hs2 hn2 f1) fun b hb => nsub b (f1.mem hb).1
  have t2 : HandSPX.TracedZ h2 B2 a (Zc cls d) (rawInt X.env.locals) := TracedZ.but t1 hn1 hs2 nsub
  obtain ⟨oe, vs, T, oT, ts, he, hz, hd, h1', hnT, hTe, hT, hdT, h3⟩ := t2
  unfold PySem.passOn
  refine wpAny_bind (wpAny_field he hd h1' ?_)
  rw [if_neg (show ¬ ((Value.ref T == Value.none) = true) from by simp)]
  rw [cf, hf]
  refine wpAny_bind (fly_here b2 f2 ⟨oe, vs, T, oT, ts, he, hz, hd, h1', hnT, hTe, hT, hdT, h3⟩ fun h4 b4 f4 t4 up4 => ?_)
  refine wpAny_throw ?_
  -- the state without the exception
  obtain ⟨G, k1, k2⟩ := restrict s'.heap fun b => (B2.get? b).isSome || decide (b ∈ frs X.stack)
  have gB : ∀ b o, B2.get? b = some o → G.get? b = some o := fun b o q => by
    rw [k1 b (by simp [q])]
    exact st b o (sub b o q).1
  have gF : ∀ b, b ∈ frs X.stack → G.get? b = s'.heap.get? b := fun b hb => k1 b (by simp [hb])
  have og : ∀ b o, G.get? b = some o → s'.heap.get? b = some o ∧ ((B2.get? b).isSome = true ∨ b ∈ frs X.stack) := fun b o q => by
    cases z : ((B2.get? b).isSome || decide (b ∈ frs X.stack)) with
    | false =>
      rw [k2 b z] at q
      cases q
    | true =>
      rw [k1 b z] at q
      exact ⟨q, by simpa [Bool.or_eq_true] using z⟩
  have nC3 : ∀ b o, s3.heap.get? b = some o → b ≠ ce.locals := fun b o q z => by
    have w := Heap.lt_size q
    rw [z, cL] at w
    exact absurd w (Nat.lt_irrefl _)
  have U : Un (frs X.stack) fp H3 H5 s3.heap s5.heap := I5.base
  refine tk _ _ ⟨a, B2, { s3 with heap := G, gens := s'.gens, drawn := s'.drawn, toks := s'.toks }, pins, σ, H', cls, d, rfl, ?_, fun b o q hb => ?_, ?_, ?_, na, ?_, ag, hW _ _ _ hE⟩
  · refine I3.call' (ch := fp) rfl ⟨fun b o q n hb hx => ?_, fun b o q n hb hx => ?_, fun b o q n hx => ?_, fun b o q hx => ?_, fun b xs q => ub.tups _ _ (U.tups _ _ q), fun b o u q => ub.frzs _ _ _ (U.frzs _ _ _ q), fun b ps q => ?_⟩ ?_ ag fun b hb => ⟨(f3 b hb).1.2.2.2.1, (f3 b hb).1.2.1, (f3 b hb).1.2.2.2.2.1, (f3 b hb).1.2.2.2.2.2⟩
    · exact gB b o (sup b o (ub.keep b o (U.keep b o q n hb hx) (U.free b o q n hx) hb) (nC3 b o q))
    · obtain ⟨sl, e5⟩ := U.slot b o q n hb hx
      obtain ⟨sl2, e6⟩ := ub.slot b _ e5 hb
      exact ⟨sl2, by
        show G.get? b = _
        rw [gF b hb]
        exact e6⟩
    · obtain ⟨o', e5⟩ := U.there b o q hx
      exact ub.free b o' e5 (U.free b o q n hx)
    · obtain ⟨o', e5⟩ := U.there b o q hx
      by_cases hb : b ∈ frs X.stack
      · obtain ⟨sl, e6⟩ := ub.slot b o' e5 hb
        exact ⟨_, by
          show G.get? b = _
          rw [gF b hb]
          exact e6⟩
      · obtain ⟨o2, e6⟩ := ub.there b o' e5 hb
        exact ⟨o2, gB b o2 (sup b o2 e6 (nC3 b o q))⟩
    · obtain ⟨more, e5⟩ := U.tbls b ps q
      obtain ⟨more2, e6⟩ := ub.tbls b _ e5
      exact ⟨more ++ more2, by rw [e6]; simp⟩
    · intro b o q
      refine (hok b o q).stay (fun c v hc r => gB c v (sup c v r fun z => ?_)) (fun _ r => r) fun _ _ r => r
      rcases hc with hc | hc
      · rw [← hc, z, HC] at q
        cases q
      · rw [z, HC] at hc
        cases hc
  · obtain ⟨e', h⟩ := og b o q
    rcases h with h | h
    · obtain ⟨o', z⟩ := Option.isSome_iff_exists.mp h
      have y := st b o' (sub b o' z).1
      rw [e'] at y
      cases y
      exact z
    · exact absurd h hb
  · intro b o q nf
    have nb : b ≠ ce.locals := fun z => by
      rcases (og b o q).2 with h | h
      · obtain ⟨o', y⟩ := Option.isSome_iff_exists.mp h
        exact (sub b o' y).2 z
      · exact nfC (z ▸ h)
    obtain ⟨sl, e1⟩ := up1 b o (og b o q).1 nf
    obtain ⟨sl2, e2⟩ := up4 b _ ((hs2.2 b nb).trans e1) nf
    exact ⟨sl2, e2⟩
  · rw [hs]
    exact .inr (.inr ⟨b4, nsub _ b0, f4, t4⟩)
  · show s'.os = s3.os
    exact os.trans I5.os
/-- [e for x in .. if ..], where a call in e may let an exception out -/
theorem pe_lcX {elt tg iter : Expr} {ifs : List Expr} {scope : Scope} {own : List (Str × Nat)} {pos : Pos} {wi : TI} {g : TG} {tt : TT} {te : XK → TE} {W : WX} (hs : X.stack = X.env :: X.outer) (hf : X.env.frame = some X.env.locals) (tk : Takes X W) (hc : X.calm = true) (hN : X.N.Nodup)
    (hi : PI X tg iter wi) (ok : BlkOk X.N X.env.scope scope own)
    (hg : ∀ (s : Shared) (H : Hp) (C : Addr) (cl : List (Str × Addr)) (fp : List Addr) (xb : Value → Shared → Prop), PG ((X.blk s H scope (compEnvC scope cl C X.env) fp).tr [] xb) tg g)
    (ht : ∀ (s : Shared) (H : Hp) (C : Addr) (cl : List (Str × Addr)) (fp : List Addr) (xb : Value → Shared → Prop), PTs ((X.blk s H scope (compEnvC scope cl C X.env) fp).tr [] xb) ifs tt)
    (he : ∀ (s : Shared) (H : Hp) (C : Addr) (cl : List (Str × Addr)) (fp : List Addr) (xb : Value → Shared → Prop) (E : XK), Passes (L2.CX X.prog X.w) ((X.blk s H scope (compEnvC scope cl C X.env) fp).tr [] xb) E → PE ((X.blk s H scope (compEnvC scope cl C X.env) fp).tr [] xb) elt (te E))
    (hz : ∀ x, foldedSetIterable iter X.env x = pure x := by intro _; rfl) :
    PE X (.ListComp elt [⟨tg, iter, ifs, 0⟩] scope pos) (fun σ H Q => tLc wi g tt (te fun cls d H' => W cls d σ H') (own.map (·.2)) σ H Q) := by
  refine ⟨fun pins s σ H Q I h => ?_⟩
  rw [eval_ListComp]
  have frees : ∀ y ∈ scope.names, y.2 = .free → ∃ c, X.env.cells.lookup y.1 = some c := fun y m e => I.ok.has _ (ok.free y m e)
  refine comprehension_at rfl hz (closure_ok frees) ok.kind (fun y m e => by rw [ok.uniq y m, e]) (thn (hi.run pins s σ H _ I h) fun _ s1 r1 => thn r1 fun _ s2 r2 => ?_)
  obtain ⟨it, fp, tn, J, H2, rfl, I2, T, st2, f2, q⟩ := r2
  refine wpAny_newObj_type (newEnv_comp ?_) (by show 0 ≤ sizeLine; decide)
  obtain ⟨W0, ⟨m0, w0⟩, turn⟩ := q s2.heap.objs.size (I2.hok.fresh (Nat.le_refl _))
  -- the list stands
  let s3 : Shared := { s2 with heap := s2.heap.push { cls := .type "list", data := .seq ([] : List Value).toArray } }
  let D : Addr := s2.heap.objs.size
  let H3 : Hp := upd H2 D (.lst [])
  have h23 : ∀ b o, s2.heap.get? b = some o → s3.heap.get? b = some o := fun b o e => Heap.get?_push_of_some _ e
  have z3 : s3.heap.objs.size = s2.heap.objs.size + 1 := Heap.size_push _ _
  have I3 : Inv X pins σ H3 s3 := I2.laid (t' := s2.toks) h23 (Nat.le_refl _) ⟨Nat.zero_le _, [], 0, .nil, Heap.get?_push_size _ rfl⟩
  have f3 : ∀ b ∈ fp, FpOk X pins H3 b ∧ b < s3.heap.objs.size := fun b m => by
    obtain ⟨o, e, _⟩ := T.obj _ _ st2 b m
    have lt := Heap.lt_size e
    exact ⟨⟨(upd_ne (Nat.ne_of_lt lt)).trans (f2 b m).1, (f2 b m).2⟩, by
      rw [z3]
      exact Nat.lt_succ_of_lt lt⟩
  let cl := cellsFrom (s3.heap.objs.size + 1) scope.names (cloFrom X.env.cells scope.names [])
  let ce : Env := compEnvC scope cl s3.heap.objs.size X.env
  let xb : Value → Shared → Prop := notedBy (model X.prog X.w) X.A ce (CompFails (model X.prog X.w) X.A X.xe ce)
  let XB : Cx := (X.blk s3 H3 scope ce fp).tr [] xb
  let s4 : Shared := { s3 with heap := pushCells (s3.heap.push { cls := .type "dict", data := .dict #[] }) scope.names }
  have h34 : ∀ b o, s3.heap.get? b = some o → s4.heap.get? b = some o := fun b o e => pushCells_keeps _ _ _ _ (Heap.get?_push_of_some _ e)
  have I4 : Inv XB [] (wipe σ (own.map (·.2))) H3 s4 := blk_x (block_start I3 ok hN f3)
  have st4 : tn 0 s4.heap := T.keep _ _ _ st2 fun b _ o e => h34 b o (h23 b o e)
  have cL : ce.locals = s3.heap.objs.size := rfl
  let E0 : XK := fun cls d H' => W cls d σ H'
  have pass : Passes (L2.CX X.prog X.w) XB E0 := fun _ _ _ _ _ _ I5 c => comp_raise hs hf tk (fun _ _ _ w => w) I3 f3 cL rfl I5 c
  have pg : PG XB tg g := hg s3 H3 _ cl fp xb
  have pt : PTs XB ifs tt := ht s3 H3 _ cl fp xb
  have pe : PE XB elt (te E0) := he s3 H3 _ cl fp xb E0 pass
  have still : ∀ {σ' : L2.St} {H' : Hp} {s' : Shared}, Inv XB [] σ' H' s' → (∀ b ∈ fp, H' b = none) → ∀ b ∈ fp, FpOk XB [] H' b := fun J' n b m =>
    ⟨n b m, (J'.ok.exf b m).1, J'.ok.exfs b m, .inl m, (J'.ok.exf b m).2, fun _ m' => nomatch (show _ ∈ ([] : List (Addr × Obj)) from m')⟩
  have back : ∀ {σ' : L2.St} {H' : Hp} {s' : Shared}, Inv XB [] σ' H' s' → Inv X pins σ H' s' := fun J' =>
    I3.call' (ch := fp) J'.os J'.base J'.hok J'.bare fun b m => ⟨(f3 b m).1.2.2.2.1, (f3 b m).1.2.1, (f3 b m).1.2.2.2.2.1, (f3 b m).1.2.2.2.2.2⟩
  let G : Nat → Shared → Prop := fun n s' => ∃ i H', Inv XB [] (wipe σ (own.map (·.2))) H' s' ∧ tn i s'.heap ∧ (∀ b ∈ fp, H' b = none) ∧ W0 i n H'
  suffices loop : codeAny (model X.prog X.w) X.A (.compLoop (.ListComp elt [⟨tg, iter, ifs, 0⟩] scope pos) 0 (.ref it) (.ref D) ce) (compEnds (model X.prog X.w) X.A X.xe none (EP X pins σ Q) (.ref D) ce) s4 from
    codeAny_compStart_list loop (T.self X.A 0 s4 _ _ st4 loop)
  refine compLoop_any G ?_ m0 ⟨0, H3, I4, st4, fun b m => (f3 b m).1.1, w0⟩
  rintro n s5 ⟨i, H5, I5, st5, n5, w5⟩
  rcases turn i n H5 w5 with ⟨stop, qq⟩ | ⟨go, Nx, nx, step⟩
  · refine thnF (T.done XB rfl rfl rfl hc i [] s5 _ H5 (fun _ _ => False) I5 (still I5 n5) st5 stop) fun r s6 ⟨er, I6⟩ => ?_
    subst er
    obtain ⟨m, hn, _⟩ := I6.loc
    have I7 : Inv X pins σ H5 s6 := back I6
    have fC : FpOk X pins H5 ce.locals := I3.fpOk (Nat.le_refl _) I6.free
    refine ⟨m, hn, fun h' sb => ⟨.ref D, H5, ?_, rfl, qq⟩⟩
    exact I7.turned (t' := s6.toks) (fun b o nb e => (sb.2 b nb).trans e) fC.1 fC.2.1 fC.2.2.2.1 fC.2.2.2.2.1 fC.2.2.2.2.2
  · refine thnF (T.item XB rfl rfl rfl hc i [] s5 _ H5 (fun _ _ => False) I5 (still I5 n5) st5 go) fun r s6 ⟨u, er, h6⟩ => ?_
    subst er
    refine thnF h6 fun _ s7 ⟨x, H7, I7, r7, y7, st7, n7⟩ => ?_
    have P7 := I7.pinned (still I7 n7) (T.obj _ _ st7)
    refine thn (pg.run _ s7 _ H7 x u _ P7 r7 (step x H7 y7)) fun _ s8 ⟨σ8, H8, I8, ew, q8⟩ => ?_
    refine thn (pt.run _ s8 σ8 H8 _ I8 q8) fun b s9 ⟨H9, I9, q9⟩ => ?_
    have again : ∀ {s' : Shared} {H' : Hp}, Inv XB ([] ++ pinsAt fp s7.heap) σ8 H' s' → Nx H' → ∃ m, m < n ∧ G m s' := fun {s' H'} J' z => by
      obtain ⟨m', lt, w'⟩ := nx H' z
      have pin : ∀ b ∈ fp, ∀ o, s7.heap.get? b = some o → s'.heap.get? b = some o ∧ H' b = none := fun b m o e => by
        have y := J'.pin (b, o) (List.mem_append_right _ (List.mem_append_right _ (mem_pinsAt m e)))
        exact ⟨y.1, y.2.1⟩
      have el : (wipe σ (own.map (·.2))).length = σ8.length := by rw [← ew, wipe_length]
      refine ⟨m', lt, i + 1, H', (J'.unpinned (pins := [])).weak el (fun j v e => ?_), T.keep _ _ _ st7 fun b m o e => (pin b m o e).1, fun b m => ?_, w'⟩
      · rw [← ew] at e
        exact (wipe_some e).1
      · obtain ⟨o, e, _⟩ := T.obj _ _ st7 b m
        exact (pin b m o e).2
    cases b with
    | false => exact again I9 q9
    | true =>
      refine thn (pe.run _ s9 σ8 H9 _ I9 q9) fun z s10 ⟨yv, H10, I10, r10, acc, eD, lt, nx⟩ => ?_
      exact app_ok (X := XB) I10 eD lt r10 fun s11 I11 => again I11 nx
end
end Vm
/-! the program reads: lists of entries -/
namespace Vm
open PySem PySem.Spec PyProof.Rows L2 TL
abbrev sUses : Stmt := top 35
abbrev sWhere : Stmt := top 37
abbrev sCols : Stmt := top 41
theorem mapM_no {α β : Type} {f : α → Option β} : ∀ {xs : List α} {x : α}, x ∈ xs → f x = none → xs.mapM f = none
  | y :: r, x, m, e => by
    rw [List.mapM_cons]
    rcases List.mem_cons.mp m with z | z
    · rw [← z, e]
      rfl
    · rw [mapM_no z e]
      cases f y <;> rfl
theorem mapM_snoc {α β : Type} {f : α → Option β} {xs : List α} {x : α} {ys : List β} {y : β} (h : xs.mapM f = some ys) (e : f x = some y) : (xs ++ [x]).mapM f = some (ys ++ [y]) := by
  rw [List.mapM_append, h, List.mapM_cons, e, List.mapM_nil]
  rfl
theorem mapM_len {α β : Type} {f : α → Option β} : ∀ {xs : List α} {ys : List β}, xs.mapM f = some ys → ys.length = xs.length
  | [], ys, h => by
    rw [List.mapM_nil] at h
    rw [← Option.some.inj h]
    rfl
  | x :: r, ys, h => by
    rw [List.mapM_cons] at h
    cases e : f x with
    | none =>
      rw [e] at h
      cases h
    | some y =>
      rw [e] at h
      cases e2 : r.mapM f with
      | none =>
        rw [e2] at h
        cases h
      | some zs =>
        rw [e2] at h
        rw [← Option.some.inj h]
        exact congrArg (· + 1) (mapM_len e2)
/-- the loop of a comprehension over entries -/
theorem ent_turns {α : Type} {K : PySem.W.Frag} {CE : Addr} {f : List Str → Option α} {g : α → Tr} {n : Nat} {H1 : Hp} {p D : Addr} {ls : List Addr} {ts : List (List Str)} {E : XK} {Qd : Hp → Prop} {gg : TG} {te : TE} {vs : List Nat} {σ : L2.St}
    (ep : H1 p = some (.lst (ls.map V.ref))) (L : LsAt H1 ls ts) (hD : H1 D = none) (few : ts.length ≤ 5000)
    (elem : ∀ (l : Addr) (t : List Str) (Hx : Hp) (Qx : VK) (Zx : Hp → Prop), t ∈ ts → Hx l = some (.lst (t.map V.str)) → rdr CE (f t) Hx (fun y v H' => FD K H' v (g y) n) Qx E → gg (.ref l) (wipe σ vs) Hx fun σ2 H2 => wipe σ2 vs = wipe σ vs ∧ tYes σ2 H2 fun b H3 => if b = true then te σ2 H3 Qx else Zx H3)
    (done : ∀ H2 us xs, ts.mapM f = some us → Same H1 H2 → H2 D = some (.lst xs) → FDs K H2 xs (us.map g) n → Qd H2) (fail : ts.mapM f = none → ∀ H', Same H1 H' → E (.ref CE) none H') :
    ∃ W : Nat → Nat → Hp → Prop, (∃ m, W 0 m (upd H1 D (.lst []))) ∧ ∀ i m H, W i m H →
      ((Itl K p).stop i H ∧ Qd H) ∨ ((Itl K p).go i H ∧ ∃ Nx : Hp → Prop, (∀ H', Nx H' → ∃ m', m' < m ∧ W (i + 1) m' H') ∧ ∀ x H', (Itl K p).yld i H x H' → gg x (wipe σ vs) H' fun σ2 H2 => wipe σ2 vs = wipe σ vs ∧ tYes σ2 H2 fun b H3 =>
        if b = true then te σ2 H3 fun y H4 => ∃ acc, H4 D = some (.lst acc) ∧ acc.length < sizeLine ∧ Nx (upd H4 D (.lst (acc ++ [y]))) else Nx H3) := by
  have big : sizeLine > 100000 := by decide
  have lt := each_len L
  refine lc_list (K := K) (a := p) (xs := ls.map V.ref) (fun i H' => Same H1 H' ∧ ∃ us xs, (ts.take i).mapM f = some us ∧ H' D = some (.lst xs) ∧ FDs K H' xs (us.map g) n) ⟨same_upd hD, [], [], rfl, upd_same, .nil⟩ (fun i H' _ z => SqL.of (z.1 _ _ ep)) ?_ ?_
  · rintro i y H2 hi ⟨s2, us, xs, em, e2, d2⟩
    obtain ⟨l, el, rfl⟩ := map_at' hi
    obtain ⟨t, et, hl⟩ := each_get L el
    have mt := List.mem_of_getElem? et
    refine elem l t H2 _ _ mt (s2 _ _ hl) ⟨fun y ey v H3 s3 d3 => ?_, fun ey H3 s3 => fail (mapM_no mt ey) H3 (s2.trans s3)⟩
    have lx : xs.length ≤ 5000 := by
      have a := d2.length
      have b := mapM_len em
      rw [List.length_map] at a
      have c := List.length_take_le i ts
      have d : (ts.take i).length ≤ ts.length := by
        rw [List.length_take]
        omega
      omega
    have e3 := s3 _ _ e2
    have nl : NL H3 (upd H3 D (.lst (xs ++ [v]))) := fun b u n e => by
      rw [upd_ne fun z => by rw [z, e3] at e; exact n _ (Option.some.inj e).symm]
      exact e
    refine ⟨xs, e3, by omega, fun b u e => ?_, us ++ [y], xs ++ [v], ?_, upd_same, ?_⟩
    · rw [upd_ne (ne_of_none e hD)]
      exact s3 _ _ (s2 _ _ e)
    · rw [List.take_add_one, et]
      exact mapM_snoc em ey
    · rw [List.map_append]
      exact ((d2.sameF s3).nlF nl).append (.cons (d3.nlF nl) .nil)
  · rintro H2 ⟨s2, us, xs, em, e2, d2⟩
    rw [List.length_map, lt, List.take_length] at em
    exact done H2 us xs em s2 e2 d2
section
variable {P : Program} {w : World} {K : PySem.W.Frag} {mg : Str → Option Value} {base : Heap} {C CE fE fU fT fP fX fI fUse fCo fRC : Addr}
def spUses (K : PySem.W.Frag) (C CE : Addr) : Sp := fun vs H Q E => ∃ (o : Addr) (ws : List Str) (a : Nat), vs = [.ref o] ∧ WAt C o H ws a ∧ SmQ ws ∧ rdW C o CE ws (usT ws a) H (fun us v H' => FD K H' v (usR us) 2) Q E
theorem scUses : FnScope ["words", "item"] ["words"] (defScope sUses) := ⟨rfl, rfl, rfl, by decide +kernel, rfl, by decide +kernel, by decide +kernel⟩
theorem ok_uses {f : Addr} {fd fdI fdU : FuncData} (F : Fun K "_read_uses" "_read_uses" sUses f fd) (N : TxtN K mg) (T : TxtWd K mg C fE fU fT fP fX fI)
    (GI : FnOk P w K mg base (L2.CX P w) 2 fI fdI ["self", "size"] (spItems C CE)) (bI : Binds K fdI ["self", "size"] [])
    (cU : Calls K mg "_read_use" fUse) (GU : FnOk P w K mg base (L2.CX P w) 2 fUse fdU ["item"] (spEnt K CE useT useR)) (bU : Binds K fdU ["item"] []) :
    FnOk P w K mg base (L2.CX P w) 3 f fd ["words"] (spUses K C CE) := by
  refine F.okX scUses (fun vs H Q E h => ?_) (fun cdv A outer s H vs Q E hr h => ?_)
  · obtain ⟨o, ws, a, rfl, _⟩ := h
    rfl
  · obtain ⟨o, ws, a, rfl, wa, sm, yes, no⟩ := h
    have many := sm.many
    have big : sizeLine > 100000 := by decide
    have tk := takes_of (X := cxOf (L2.CX P w) P w K mg base ["words", "item"] "_read_uses" (defScope sUses) f cdv A outer s H E) (E := E) rfl rfl rfl rfl
    refine ⟨_, pss_one (ps_ret (pe_callTy call_tupleF (by rfl) N.tuple (by decide +kernel) (pa_cons (pe_lcX (own := [("item", 1)]) (g := gName 1) (tt := tYes) (te := fun E => tCall (spEnt K CE useT useR) [] E (tCons (tVar 1) tNil)) rfl rfl tk rfl scUses.nd
        (pi_list (pe_meth (E := E) (pv 0) T.cl T.mI GI hr bI .nil (passes_call tk (fun _ _ _ _ h => h)) (pa_cons pe_int pa_nil)))
        (blkOk_by (N := ["words", "item"]) (sc := defScope sUses) (by decide +kernel)) (fun _ _ _ _ _ _ => pg_name (i := 1) scUses.nd rfl (Or.inl rfl)) (fun _ _ _ _ _ _ => pts_nil)
        (fun _ _ _ _ _ _ _ ps => by exact (pe_call GU hr rfl cU.g cU.k bU .nil ps (pa_cons (pv 1) pa_nil)))) pa_nil))), ?_⟩
    obtain ⟨⟨dx, l, e1, e2⟩, le⟩ := id wa
    have eu : usT ws a = _ := ents_of useT ws (show 0 < 3 by decide) a
    refine ⟨_, rfl, o, dx, _, rfl, e1, rfl, o, ws, a, 3, rfl, wa, sm, by decide, by decide, fun ts b et v H1 o1 w1 ⟨p, ls, ev, ep, L⟩ => ?_, fun et H1 o1 => no (by rw [eu, et]) H1 o1⟩
    subst ev
    rw [et] at eu
    dsimp only at eu
    have on := ents_on (show 0 < 3 by decide) (k := ws.length - a + 1) (by omega) et
    have pt := ents_part (show 0 < 3 by decide) (k := ws.length - a + 1) (by omega) et
    refine ⟨p, rfl, ⟨_, SqL.of ep⟩, fun D hD => ?_⟩
    refine ent_turns (f := useT) (g := useR) (n := 1) (E := E) ep L hD (by omega) (fun l t Hx Qx Zx mt hl rd => ⟨rfl, ?_⟩) (fun H2 us xs em s2 eD d2 => ?_) (fun em H' s' => no (by rw [eu, em]; rfl) H' (o1.same s'))
    · dsimp only [tYes]
      rw [if_pos rfl]
      exact ⟨_, rfl, l, t, rfl, SqL.of hl, (pt t mt).1, fun x m => sm.part x ((pt t mt).2 x m), rd⟩
    · refine ⟨D, _, rfl, SqL.of eD, fun q ob hq ho => ?_⟩
      exact yes us b (by rw [eu, em]; rfl) _ _ (o1.same (s2.trans (same_upd hq))) ((w1.same s2).same (same_upd hq)) (d2.tupF hq ho)
def spWhere (K : PySem.W.Frag) (C CE : Addr) : Sp := fun vs H Q E => ∃ (o : Addr) (ws : List Str) (a : Nat), vs = [.ref o] ∧ WAt C o H ws a ∧ SmQ ws ∧ rdW C o CE ws (whT ws a) H (fun wh v H' => FD K H' v (whR wh) 2) Q E
theorem scWhere : FnScope ["words", "item"] ["words"] (defScope sWhere) := ⟨rfl, rfl, rfl, by decide +kernel, rfl, by decide +kernel, by decide +kernel⟩
theorem ok_where {f : Addr} {fd fdP fdI fdU : FuncData} (F : Fun K "_read_where" "_read_where" sWhere f fd) (N : TxtN K mg) (T : TxtWd K mg C fE fU fT fP fX fI)
    (GP : FnOk P w K mg base CX0 3 fP fdP ["self", "word"] (spPasses C)) (bP : Binds K fdP ["self", "word"] [])
    (GI : FnOk P w K mg base (L2.CX P w) 2 fI fdI ["self", "size"] (spItems C CE)) (bI : Binds K fdI ["self", "size"] [])
    (cU : Calls K mg "_read_condition" fCo) (GU : FnOk P w K mg base (L2.CX P w) 4 fCo fdU ["item"] (spEnt K CE condT cndR)) (bU : Binds K fdU ["item"] []) :
    FnOk P w K mg base (L2.CX P w) 5 f fd ["words"] (spWhere K C CE) := by
  refine F.okX scWhere (fun vs H Q E h => ?_) (fun cdv A outer s H vs Q E hr h => ?_)
  · obtain ⟨o, ws, a, rfl, _⟩ := h
    rfl
  · obtain ⟨o, ws, a, rfl, wa, sm, yes, no⟩ := h
    have many := sm.many
    have big : sizeLine > 100000 := by decide
    have hr3 : Room 3 _ := hr.mono (by decide)
    have hr2 : Room 2 _ := hr.mono (by decide)
    have tk := takes_of (X := cxOf (L2.CX P w) P w K mg base ["words", "item"] "_read_where" (defScope sWhere) f cdv A outer s H E) (E := E) rfl rfl rfl rfl
    refine ⟨_, pss_cons (ps_if (pt_not (pt_val (pe_meth (pv 0) T.cl T.mP GP hr3 bP .nil pass0 (pa_cons pe_str pa_nil)))) (pss_one (ps_ret (pe_tupF pa_nil))) pss_nil)
      (pss_one (ps_ret (pe_callTy call_tupleF (by rfl) N.tuple (by decide +kernel) (pa_cons (pe_lcX (own := [("item", 1)]) (g := gName 1) (tt := tYes) (te := fun E => tCall (spEnt K CE condT cndR) [] E (tCons (tVar 1) tNil)) rfl rfl tk rfl scWhere.nd
        (pi_list (pe_meth (E := E) (pv 0) T.cl T.mI GI hr2 bI .nil (passes_call tk (fun _ _ _ _ h => h)) (pa_cons pe_int pa_nil)))
        (blkOk_by (N := ["words", "item"]) (sc := defScope sWhere) (by decide +kernel)) (fun _ _ _ _ _ _ => pg_name (i := 1) scWhere.nd rfl (Or.inl rfl)) (fun _ _ _ _ _ _ => pts_nil)
        (fun _ _ _ _ _ _ _ ps => by exact (pe_call GU hr rfl cU.g cU.k bU .nil ps (pa_cons (pv 1) pa_nil)))) pa_nil)))), ?_⟩
    obtain ⟨⟨dx, l, e1, e2⟩, le⟩ := id wa
    refine ⟨_, rfl, o, dx, _, rfl, e1, rfl, o, ws, a, _, rfl, wa, sm, by decide +kernel, fun ew H0 o0 w0 => ⟨_, rfl, ?_⟩, fun ew => ⟨_, rfl, ?_⟩⟩
    · have ew2 : whT ws a = ents condT ws 3 (a + 1) := if_pos ew
      refine iteF ?_
      obtain ⟨⟨dx, l, f1, f2⟩, le0⟩ := id w0
      have eu := ew2.trans (ents_of condT ws (show 0 < 3 by decide) (a + 1))
      refine ⟨_, rfl, o, dx, _, rfl, f1, rfl, o, ws, a + 1, 3, rfl, w0, sm, by decide, by decide, fun ts b et v H1 o1 w1 ⟨p, ls, ev, ep, L⟩ => ?_, fun et H1 o1 => no (by rw [eu, et]) H1 (o0.trans o1)⟩
      subst ev
      rw [et] at eu
      dsimp only at eu
      have on := ents_on (show 0 < 3 by decide) (k := ws.length - (a + 1) + 1) (by omega) et
      have pt := ents_part (show 0 < 3 by decide) (k := ws.length - (a + 1) + 1) (by omega) et
      have o1 := o0.trans o1
      refine ⟨p, rfl, ⟨_, SqL.of ep⟩, fun D hD => ?_⟩
      refine ent_turns (f := condT) (g := cndR) (n := 1) (E := E) ep L hD (by omega) (fun l t Hx Qx Zx mt hl rd => ⟨rfl, ?_⟩) (fun H2 us xs em s2 eD d2 => ?_) (fun em H' s' => no (by rw [eu, em]; rfl) H' (o1.same s'))
      · dsimp only [tYes]
        rw [if_pos rfl]
        exact ⟨_, rfl, l, t, rfl, SqL.of hl, (pt t mt).1, fun x m => sm.part x ((pt t mt).2 x m), rd⟩
      · refine ⟨D, _, rfl, SqL.of eD, fun q ob hq ho => ?_⟩
        exact yes us b (by rw [eu, em]; rfl) _ _ (o1.same (s2.trans (same_upd hq))) ((w1.same s2).same (same_upd hq)) (d2.tupF hq ho)
    · have ew2 : whT ws a = some ([], a) := if_neg ew
      refine iteT ⟨Nat.zero_le _, fun p ob hp ho => ?_⟩
      have d0 : FDs K H [] [] 1 := .nil
      exact yes [] a ew2 _ _ (wa.ot (same_upd hp)) (wa.same (same_upd hp)) (d0.tupF hp ho)
def spCols9 (K : PySem.W.Frag) (C CE : Addr) : Sp := fun vs H Q E => ∃ (o : Addr) (ws : List Str) (a : Nat), vs = [.ref o] ∧ WAt C o H ws a ∧ SmQ ws ∧ rdW C o CE ws (ents colT ws 1 a) H (fun k v H' => FD K H' v (csR k) 1) Q E
theorem colT_one (x : Str) : colT [x] = if colB x = true then some x else none := rfl
theorem one_of {ws : List Str} (h : ws.length = 1) : ∃ a, ws = [a] := by
  match ws, h with
  | [a], _ => exact ⟨a, rfl⟩
theorem scCols : FnScope ["words", "item"] ["words"] (defScope sCols) := ⟨rfl, rfl, rfl, by decide +kernel, rfl, by decide +kernel, by decide +kernel⟩
theorem ok_cols {f : Addr} {fd fdI fdU : FuncData} (F : Fun K "_read_columns" "_read_columns" sCols f fd) (N : TxtN K mg) (T : TxtWd K mg C fE fU fT fP fX fI)
    (GI : FnOk P w K mg base (L2.CX P w) 2 fI fdI ["self", "size"] (spItems C CE)) (bI : Binds K fdI ["self", "size"] [])
    (cU : Calls K mg "_read_column" fRC) (GU : FnOk P w K mg base (L2.CX P w) 3 fRC fdU ["word"] (spReadCol CE)) (bU : Binds K fdU ["word"] []) :
    FnOk P w K mg base (L2.CX P w) 4 f fd ["words"] (spCols9 K C CE) := by
  refine F.okX scCols (fun vs H Q E h => ?_) (fun cdv A outer s H vs Q E hr h => ?_)
  · obtain ⟨o, ws, a, rfl, _⟩ := h
    rfl
  · obtain ⟨o, ws, a, rfl, wa, sm, yes, no⟩ := h
    have many := sm.many
    have big : sizeLine > 100000 := by decide
    have hr2 : Room 2 _ := hr.mono (by decide)
    have tk := takes_of (X := cxOf (L2.CX P w) P w K mg base ["words", "item"] "_read_columns" (defScope sCols) f cdv A outer s H E) (E := E) rfl rfl rfl rfl
    refine ⟨_, pss_one (ps_ret (pe_callTy call_tupleF (by rfl) N.tuple (by decide +kernel) (pa_cons (pe_lcX (own := [("item", 1)]) (g := gName 1) (tt := tYes) (te := fun E => tCall (spReadCol CE) [] E (tCons (tOp (rIxL K) (tVar 1) (tC (.int 0))) tNil)) rfl rfl tk rfl scCols.nd
        (pi_list (pe_meth (E := E) (pv 0) T.cl T.mI GI hr2 bI .nil (passes_call tk (fun _ _ _ _ h => h)) (pa_cons pe_int pa_nil)))
        (blkOk_by (N := ["words", "item"]) (sc := defScope sCols) (by decide +kernel)) (fun _ _ _ _ _ _ => pg_name (i := 1) scCols.nd rfl (Or.inl rfl)) (fun _ _ _ _ _ _ => pts_nil)
        (fun _ _ _ _ _ _ _ ps => by exact (pe_call GU hr rfl cU.g cU.k bU .nil ps (pa_cons (pe_ix ix_list (pv 1) pe_int (fun _ _ => rfl)) pa_nil)))) pa_nil))), ?_⟩
    obtain ⟨⟨dx, l, e1, e2⟩, le⟩ := id wa
    have eu := ents_of colT ws (show 0 < 1 by decide) a
    refine ⟨_, rfl, o, dx, _, rfl, e1, rfl, o, ws, a, 1, rfl, wa, sm, by decide, by decide, fun ts b et v H1 o1 w1 ⟨p, ls, ev, ep, L⟩ => ?_, fun et H1 o1 => no (by rw [eu, et]) H1 o1⟩
    subst ev
    rw [et] at eu
    dsimp only at eu
    have on := ents_on (show 0 < 1 by decide) (k := ws.length - a + 1) (by omega) et
    have pt := ents_part (show 0 < 1 by decide) (k := ws.length - a + 1) (by omega) et
    refine ⟨p, rfl, ⟨_, SqL.of ep⟩, fun D hD => ?_⟩
    refine ent_turns (f := colT) (g := Tr.str) (n := 0) (E := E) ep L hD (by omega) (fun l t Hx Qx Zx mt hl rd => ⟨rfl, ?_⟩) (fun H2 us xs em s2 eD d2 => ?_) (fun em H' s' => no (by rw [eu, em]; rfl) H' (o1.same s'))
    · dsimp only [tYes]
      rw [if_pos rfl]
      obtain ⟨x, rfl⟩ := one_of (pt t mt).1
      have ox := sm.part x ((pt [x] mt).2 x List.mem_cons_self)
      have hl1 : SqL K Hx l [.str x] := SqL.of hl
      refine ⟨_, rfl, l, _, _, _, rfl, rfl, hl1, rfl, x, rfl, ox, fun c H' s' => rd.1 x (by rw [colT_one, if_pos c]) _ H' s' ox.dp, fun c H' s' => rd.2 (by rw [colT_one, if_neg (by rw [c]; decide)]) H' s'⟩
    · refine ⟨D, _, rfl, SqL.of eD, fun q ob hq ho => ?_⟩
      exact yes us b (by rw [eu, em]; rfl) _ _ (o1.same (s2.trans (same_upd hq))) ((w1.same s2).same (same_upd hq)) (d2.tupF hq ho)
end
end Vm
/-! the program reads: a question's body; questions are made -/
namespace Vm
open PySem PySem.Spec PyProof.Rows L2 TL
abbrev sBody : Stmt := top 31
abbrev sSelI : Stmt := inClass (top 21) 0
abbrev sUniI : Stmt := inClass (top 22) 0
abbrev sFstI : Stmt := inClass (top 23) 0
abbrev sGrpI : Stmt := inClass (top 24) 0
/-- an __init__ that stores its arguments -/
def spIni (C : Addr) (ns : List Str) : Sp := fun vs H Q _ => ∃ (e dx : Addr) (xs : List V), vs = .ref e :: xs ∧ xs.length = ns.length ∧ H e = some (.ins C dx []) ∧
  (∀ H', (∀ b u, b ≠ e → H b = some u → H' b = some u) → H' e = some (.ins C dx (ns.zip xs)) → Q .non H')
structure TxtC (K : PySem.W.Frag) (C : Addr) (ns : List Str) : Prop where
  cl : Cls K C
  na : ∀ x ∈ ns, NoAttr K C x
theorem DP.otF {K : PySem.W.Frag} {H H' : Hp} {C o : Addr} {ws : List Str} {a : Nat} {v : V} {t : Tr} {n : Nat} (d : FD K H v t n) (w : WAt C o H ws a) (k : Ot o H H') : FD K H' v t n := by
  have key : ∀ b, FrzAt H b → b ≠ o := fun b ⟨ob, u, e⟩ z => by
    obtain ⟨⟨dx, l, e1, _⟩, _⟩ := w
    rw [z, e1] at e
    cases e
  obtain ⟨bs, d, p⟩ := d
  refine ⟨bs, d.keep fun b m u e => k.keep b u (key b (p b m)) e, fun b m => ?_⟩
  obtain ⟨ob, u, e⟩ := p b m
  exact ⟨ob, u, k.keep b _ (key b (p b m)) e⟩
theorem DPs.otF {K : PySem.W.Frag} {H H' : Hp} {C o : Addr} {ws : List Str} {a : Nat} {v : List V} {t : List Tr} {n : Nat} (d : FDs K H v t n) (w : WAt C o H ws a) (k : Ot o H H') : FDs K H' v t n := by
  have key : ∀ b, FrzAt H b → b ≠ o := fun b ⟨ob, u, e⟩ z => by
    obtain ⟨⟨dx, l, e1, _⟩, _⟩ := w
    rw [z, e1] at e
    cases e
  obtain ⟨bs, d, p⟩ := d
  refine ⟨bs, d.keep fun b m u e => k.keep b u (key b (p b m)) e, fun b m => ?_⟩
  obtain ⟨ob, u, e⟩ := p b m
  exact ⟨ob, u, k.keep b _ (key b (p b m)) e⟩
def woPR (p : List Use × List Cnd) : Tr := .tup [usR p.1, whR p.2]
/-- what _read_body gives -/
def bodyA (K : PySem.W.Frag) (b : Bd) (v : V) (H' : Hp) : Prop := ∃ p v1 v2 v3, v = .ref p ∧ SqT K H' p [v1, v2, v3] ∧ FD K H' v1 (usR b.us) 2 ∧ FD K H' v2 (whR b.wh) 2 ∧ FD K H' v3 (woR b.wo) 4
def spBody (K : PySem.W.Frag) (C CE : Addr) : Sp := fun vs H Q E => ∃ (o : Addr) (ws : List Str) (a : Nat), vs = [.ref o] ∧ WAt C o H ws a ∧ SmQ ws ∧ rdW C o CE ws (bodyT ws a) H (bodyA K) Q E
section
variable {P : Program} {w : World} {K : PySem.W.Frag} {mg : Str → Option Value} {base : Heap} {C CS CE fE fU fT fP fX fI fUs fWh : Addr}
theorem scSelI : FnScope ["self", "uses", "keep", "where", "without"] ["self", "uses", "keep", "where", "without"] (defScope sSelI) := ⟨rfl, rfl, rfl, by decide +kernel, rfl, by decide +kernel, by decide +kernel⟩
theorem scUniI : FnScope ["self", "first", "second"] ["self", "first", "second"] (defScope sUniI) := ⟨rfl, rfl, rfl, by decide +kernel, rfl, by decide +kernel, by decide +kernel⟩
theorem scFstI : FnScope ["self", "select", "by", "count", "falling"] ["self", "select", "by", "count", "falling"] (defScope sFstI) := ⟨rfl, rfl, rfl, by decide +kernel, rfl, by decide +kernel, by decide +kernel⟩
theorem scGrpI : FnScope ["self", "uses", "by", "where", "without", "least", "greatest", "having"] ["self", "uses", "by", "where", "without", "least", "greatest", "having"] (defScope sGrpI) := ⟨rfl, rfl, rfl, by decide +kernel, rfl, by decide +kernel, by decide +kernel⟩
theorem four_ofV {xs : List V} (h : xs.length = 4) : ∃ a b c d, xs = [a, b, c, d] := by
  match xs, h with
  | [a, b, c, d], _ => exact ⟨a, b, c, d, rfl⟩
theorem ok_seli {f : Addr} {fd : FuncData} {dvs : List V} {kws : List (Str × V)} (F : FunD K "__init__" "Select.__init__" (defArgs sSelI) (defBody sSelI) (defScope sSelI) dvs kws f fd) (T : TxtC K CS ["uses", "keep", "where", "without"]) :
    FnOk P w K mg base CX0 1 f fd ["self", "uses", "keep", "where", "without"] (spIni CS ["uses", "keep", "where", "without"]) := by
  refine F.ok scSelI (fun vs H Q E h => ?_) (fun cdv A outer s H vs Q E hr h => ?_)
  · obtain ⟨e, dx, xs, rfl, l, _⟩ := h
    exact congrArg (· + 1) l
  · obtain ⟨e, dx, xs, rfl, l, he, k⟩ := h
    obtain ⟨a, b, c, d, rfl⟩ := four_ofV l
    refine ⟨_, pss_cons (ps_fld (pv 0) (pv 1) rfl) (pss_cons (ps_fld (pv 0) (pv 2) rfl) (pss_cons (ps_fld (pv 0) (pv 3) rfl) (pss_one (ps_fld (pv 0) (pv 4) rfl)))), ?_⟩
    refine ⟨_, rfl, _, rfl, e, CS, dx, _, rfl, he, T.cl, T.na _ (by decide), by decide, ?_⟩
    refine ⟨_, rfl, _, rfl, e, CS, dx, _, rfl, upd_same, T.cl, T.na _ (by decide), (by show 1 < 1000; decide), ?_⟩
    refine ⟨_, rfl, _, rfl, e, CS, dx, _, rfl, upd_same, T.cl, T.na _ (by decide), (by show 2 < 1000; decide), ?_⟩
    refine ⟨_, rfl, _, rfl, e, CS, dx, _, rfl, upd_same, T.cl, T.na _ (by decide), (by show 3 < 1000; decide), ?_⟩
    refine k _ (fun b u nb q => ?_) upd_same
    rw [upd_ne nb, upd_ne nb, upd_ne nb, upd_ne nb]
    exact q
theorem ok_unii {f : Addr} {fd : FuncData} {dvs : List V} {kws : List (Str × V)} (F : FunD K "__init__" "Union.__init__" (defArgs sUniI) (defBody sUniI) (defScope sUniI) dvs kws f fd) (T : TxtC K CS ["first", "second"]) :
    FnOk P w K mg base CX0 1 f fd ["self", "first", "second"] (spIni CS ["first", "second"]) := by
  refine F.ok scUniI (fun vs H Q E h => ?_) (fun cdv A outer s H vs Q E hr h => ?_)
  · obtain ⟨e, dx, xs, rfl, l, _⟩ := h
    exact congrArg (· + 1) l
  · obtain ⟨e, dx, xs, rfl, l, he, k⟩ := h
    match xs, l with
    | [a, b], _ =>
    refine ⟨_, pss_cons (ps_fld (pv 0) (pv 1) rfl) (pss_one (ps_fld (pv 0) (pv 2) rfl)), ?_⟩
    refine ⟨_, rfl, _, rfl, e, CS, dx, _, rfl, he, T.cl, T.na _ (by decide), by decide, ?_⟩
    refine ⟨_, rfl, _, rfl, e, CS, dx, _, rfl, upd_same, T.cl, T.na _ (by decide), (by show 1 < 1000; decide), ?_⟩
    refine k _ (fun b u nb q => ?_) upd_same
    rw [upd_ne nb, upd_ne nb]
    exact q
theorem ok_fsti {f : Addr} {fd : FuncData} {dvs : List V} {kws : List (Str × V)} (F : FunD K "__init__" "First.__init__" (defArgs sFstI) (defBody sFstI) (defScope sFstI) dvs kws f fd) (T : TxtC K CS ["select", "by", "count", "falling"]) :
    FnOk P w K mg base CX0 1 f fd ["self", "select", "by", "count", "falling"] (spIni CS ["select", "by", "count", "falling"]) := by
  refine F.ok scFstI (fun vs H Q E h => ?_) (fun cdv A outer s H vs Q E hr h => ?_)
  · obtain ⟨e, dx, xs, rfl, l, _⟩ := h
    exact congrArg (· + 1) l
  · obtain ⟨e, dx, xs, rfl, l, he, k⟩ := h
    obtain ⟨a, b, c, d, rfl⟩ := four_ofV l
    refine ⟨_, pss_cons (ps_fld (pv 0) (pv 1) rfl) (pss_cons (ps_fld (pv 0) (pv 2) rfl) (pss_cons (ps_fld (pv 0) (pv 3) rfl) (pss_one (ps_fld (pv 0) (pv 4) rfl)))), ?_⟩
    refine ⟨_, rfl, _, rfl, e, CS, dx, _, rfl, he, T.cl, T.na _ (by decide), by decide, ?_⟩
    refine ⟨_, rfl, _, rfl, e, CS, dx, _, rfl, upd_same, T.cl, T.na _ (by decide), (by show 1 < 1000; decide), ?_⟩
    refine ⟨_, rfl, _, rfl, e, CS, dx, _, rfl, upd_same, T.cl, T.na _ (by decide), (by show 2 < 1000; decide), ?_⟩
    refine ⟨_, rfl, _, rfl, e, CS, dx, _, rfl, upd_same, T.cl, T.na _ (by decide), (by show 3 < 1000; decide), ?_⟩
    refine k _ (fun b u nb q => ?_) upd_same
    rw [upd_ne nb, upd_ne nb, upd_ne nb, upd_ne nb]
    exact q
theorem ok_grpi {f : Addr} {fd : FuncData} {dvs : List V} {kws : List (Str × V)} (F : FunD K "__init__" "Groups.__init__" (defArgs sGrpI) (defBody sGrpI) (defScope sGrpI) dvs kws f fd) (T : TxtC K CS ["uses", "by", "where", "without", "least", "greatest", "having"]) :
    FnOk P w K mg base CX0 1 f fd ["self", "uses", "by", "where", "without", "least", "greatest", "having"] (spIni CS ["uses", "by", "where", "without", "least", "greatest", "having"]) := by
  refine F.ok scGrpI (fun vs H Q E h => ?_) (fun cdv A outer s H vs Q E hr h => ?_)
  · obtain ⟨e, dx, xs, rfl, l, _⟩ := h
    exact congrArg (· + 1) l
  · obtain ⟨e, dx, xs, rfl, l, he, k⟩ := h
    match xs, l with
    | [a1, a2, a3, a4, a5, a6, a7], _ =>
    refine ⟨_, pss_cons (ps_fld (pv 0) (pv 1) rfl) (pss_cons (ps_fld (pv 0) (pv 2) rfl) (pss_cons (ps_fld (pv 0) (pv 3) rfl) (pss_cons (ps_fld (pv 0) (pv 4) rfl) (pss_cons (ps_fld (pv 0) (pv 5) rfl) (pss_cons (ps_fld (pv 0) (pv 6) rfl) (pss_one (ps_fld (pv 0) (pv 7) rfl))))))), ?_⟩
    refine ⟨_, rfl, _, rfl, e, CS, dx, _, rfl, he, T.cl, T.na _ (by decide), by decide, ?_⟩
    refine ⟨_, rfl, _, rfl, e, CS, dx, _, rfl, upd_same, T.cl, T.na _ (by decide), (by show 1 < 1000; decide), ?_⟩
    refine ⟨_, rfl, _, rfl, e, CS, dx, _, rfl, upd_same, T.cl, T.na _ (by decide), (by show 2 < 1000; decide), ?_⟩
    refine ⟨_, rfl, _, rfl, e, CS, dx, _, rfl, upd_same, T.cl, T.na _ (by decide), (by show 3 < 1000; decide), ?_⟩
    refine ⟨_, rfl, _, rfl, e, CS, dx, _, rfl, upd_same, T.cl, T.na _ (by decide), (by show 4 < 1000; decide), ?_⟩
    refine ⟨_, rfl, _, rfl, e, CS, dx, _, rfl, upd_same, T.cl, T.na _ (by decide), (by show 5 < 1000; decide), ?_⟩
    refine ⟨_, rfl, _, rfl, e, CS, dx, _, rfl, upd_same, T.cl, T.na _ (by decide), (by show 6 < 1000; decide), ?_⟩
    refine k _ (fun b u nb q => ?_) upd_same
    rw [upd_ne nb, upd_ne nb, upd_ne nb, upd_ne nb, upd_ne nb, upd_ne nb, upd_ne nb]
    exact q
end
end Vm
/-! the program reads: a question's body -/
namespace Vm
open PySem PySem.Spec PyProof.Rows L2 TL
theorem woT_on {ws : List Str} : ∀ (k : Nat) {a b : Nat} {wo : List (List Use × List Cnd)}, a ≤ ws.length → ws.length - a < k → woT ws a = some (wo, b) → a + wo.length ≤ b ∧ b ≤ ws.length
  | 0, a, _, _, _, h, _ => absurd h (by omega)
  | k + 1, a, b, wo, la, h, e => by
    rw [wo_step] at e
    split at e
    · rename_i z
      have lt := get_lt z
      cases q : wo1 ws (a + 1) with
      | none =>
        rw [q] at e
        cases e
      | some p =>
        obtain ⟨p, c⟩ := p
        rw [q] at e
        dsimp only at e
        obtain ⟨_, c2, c3⟩ := wo1_on q
        cases r : woT ws c with
        | none =>
          rw [r] at e
          cases e
        | some s =>
          obtain ⟨ps, d⟩ := s
          rw [r] at e
          have e := Option.some.inj e
          injection e with e1 e2
          subst e1 e2
          obtain ⟨i1, i2⟩ := woT_on k c2 (by omega) r
          exact ⟨by rw [List.length_cons]; omega, i2⟩
    · have e := Option.some.inj e
      injection e with e1 e2
      subst e1 e2
      exact ⟨Nat.le_refl _, la⟩
theorem DP.ref {K : PySem.W.Frag} {H : Hp} {P : Addr → Prop} {v : V} {t : Tr} {n : Nat} (d : DP K H P v t n) (h : isTup t = true) : ∃ a, v = .ref a :=
  let ⟨a, _, _, _, e, _⟩ := d.tupD h
  ⟨a, e⟩
theorem DPs.refs {K : PySem.W.Frag} {H : Hp} {P : Addr → Prop} {vs : List V} {ts : List Tr} {n : Nat} (d : DPs K H P vs ts n) (h : ∀ t ∈ ts, isTup t = true) : ∀ x ∈ vs, ∃ a, x = .ref a := fun x m => by
  obtain ⟨t, mt, dx⟩ := DP.mem d m
  exact dx.ref (h t mt)
theorem wo_tup {wo : List (List Use × List Cnd)} : ∀ t ∈ wo.map woPR, isTup t = true := fun t m => by
  obtain ⟨p, _, rfl⟩ := List.mem_map.mp m
  rfl
/-- another list is written -/
theorem WAt.put {C o D : Addr} {H : Hp} {ws : List Str} {a : Nat} {xs ys : List V} (h : WAt C o H ws a) (n : D ≠ o) (e : H D = some (.lst xs)) (r : ∀ x ∈ xs, ∃ a, x = .ref a) (pos : 0 < a) : WAt C o (upd H D (.lst ys)) ws a := by
  obtain ⟨⟨dx, l, h1, h2⟩, le⟩ := h
  refine ⟨⟨dx, l, (upd_ne n.symm).trans h1, (upd_ne fun z => ?_).trans h2⟩, le⟩
  rw [z, e] at h2
  have y := Option.some.inj h2
  injection y with y
  cases ws with
  | nil =>
    have z : a ≤ 0 := le
    omega
  | cons w0 wr =>
    obtain ⟨b, eb⟩ := r (.str w0) (by rw [y]; exact List.mem_cons_self)
    cases eb
section
variable {P : Program} {w : World} {K : PySem.W.Frag} {mg : Str → Option Value} {base : Heap} {C CS CE fE fU fT fP fX fI fUs fWh : Addr}
abbrev nmBody : List Str := ["words", "uses", "where", "without", "inner"]
theorem scBody : FnScope nmBody ["words"] (defScope sBody) := ⟨rfl, rfl, rfl, by decide +kernel, rfl, by decide +kernel, by decide +kernel⟩
theorem ok_body {f : Addr} {fd fdX fdU fdW fdP : FuncData} (F : Fun K "_read_body" "_read_body" sBody f fd) (N : TxtN K mg) (T : TxtWd K mg C fE fU fT fP fX fI)
    (GX : FnOk P w K mg base (L2.CX P w) 4 fX fdX ["self", "word"] (spExpect C CE)) (bX : Binds K fdX ["self", "word"] [])
    (GP : FnOk P w K mg base CX0 3 fP fdP ["self", "word"] (spPasses C)) (bP : Binds K fdP ["self", "word"] [])
    (cU : Calls K mg "_read_uses" fUs) (GU : FnOk P w K mg base (L2.CX P w) 3 fUs fdU ["words"] (spUses K C CE)) (bU : Binds K fdU ["words"] [])
    (cW : Calls K mg "_read_where" fWh) (GW : FnOk P w K mg base (L2.CX P w) 5 fWh fdW ["words"] (spWhere K C CE)) (bW : Binds K fdW ["words"] []) :
    FnOk P w K mg base (L2.CX P w) 6 f fd ["words"] (spBody K C CE) := by
  refine F.okX scBody (fun vs H Q E h => ?_) (fun cdv A outer s H vs Q E hr h => ?_)
  · obtain ⟨o, ws, a, rfl, _⟩ := h
    rfl
  · obtain ⟨o, ws, a, rfl, wa, sm, yes, no⟩ := h
    have many := sm.many
    have big : sizeLine > 100000 := by decide
    have hr3 : Room 3 _ := hr.mono (by decide)
    have hr4 : Room 4 _ := hr.mono (by decide)
    have tk := takes_of (X := cxOf (L2.CX P w) P w K mg base nmBody "_read_body" (defScope sBody) f cdv A outer s H E) (E := E) rfl rfl rfl rfl
    refine ⟨_, pss_cons (ps_expr (pe_meth (E := E) (pv 0) T.cl T.mX GX hr4 bX .nil (passes_call tk (fun _ _ _ _ h => h)) (pa_cons pe_str pa_nil)))
      (pss_cons (ps_par (i := 1) (j := 2) rfl scBody.nd rfl rfl (by decide) rfl rfl (pa_cons (pe_callS (E := fun _ => E) GU hr3 rfl cU.g cU.k bU (fun σ => passAt tk σ) (pa_cons (pv 0) pa_nil)) (pa_cons (pe_callS (E := fun _ => E) GW hr rfl cW.g cW.k bW (fun σ => passAt tk σ) (pa_cons (pv 0) pa_nil)) pa_nil)) rfl)
      (pss_cons (ps_set (i := 3) scBody.nd rfl (Or.inl rfl) (pe_lst pa_nil))
      (pss_cons (ps_while PassesOwn.leaving (pt_val (pe_meth (pv 0) T.cl T.mP GP hr3 bP .nil pass0 (pa_cons pe_str pa_nil)))
        (pss_cons (ps_set (i := 4) scBody.nd rfl (Or.inl rfl) (pe_callS (E := fun _ => E) GU hr3 rfl cU.g cU.k bU (fun σ => passAt tk σ) (pa_cons (pv 0) pa_nil)))
        (pss_one (ps_expr (pe_bm PySem.F.plainAttrs_list PySem.F.slot_list_append PySem.F.type_list_append mt_append (pv 3) (pa_cons (pe_tupF (pa_cons (pv 4) (pa_cons (pe_callS (E := fun _ => E) GW hr rfl cW.g cW.k bW (fun σ => passAt tk σ) (pa_cons (pv 0) pa_nil)) pa_nil))) pa_nil))))))
      (pss_one (ps_ret (pe_tupF (pa_cons (pv 1) (pa_cons (pv 2) (pa_cons (pe_callTy call_tupleF (by rfl) N.tuple (by decide +kernel) (pa_cons (pv 3) pa_nil)) pa_nil))))))))), ?_⟩
    obtain ⟨⟨dx, l, e1, e2⟩, le⟩ := id wa
    refine ⟨_, rfl, o, dx, _, rfl, e1, rfl, o, ws, a, _, rfl, wa, sm, by decide +kernel, fun ef H1 o1 w1 => ?_, fun ef => no (by unfold bodyT; rw [if_neg ef]) H (wa.ot (Same.refl H))⟩
    have eb : bodyT ws a = match wo1 ws (a + 1) with
      | none => none
      | some (p, b) => match woT ws b with
        | none => none
        | some (wo, c) => some (⟨p.1, p.2, wo⟩, c) := by
      conv => lhs; unfold bodyT
      rw [if_pos ef] <;> rfl
    refine ⟨_, rfl, o, ws, a + 1, rfl, w1, sm, fun us b eus v1 H2 o2 w2 d1 => ?_, fun eus H2 o2 => no (by rw [eb]; unfold wo1; rw [eus]) H2 (o1.trans o2)⟩
    refine ⟨_, rfl, o, ws, b, rfl, w2, sm, fun wh c ewh v2 H3 o3 w3 d2 => ?_, fun ewh H3 o3 => no (by rw [eb]; unfold wo1; rw [eus]; dsimp only; rw [ewh]) H3 ((o1.trans o2).trans o3)⟩
    have ew1 : wo1 ws (a + 1) = some ((us, wh), c) := by
      unfold wo1
      rw [eus]
      dsimp only
      rw [ewh]
    rw [ew1] at eb
    dsimp only at eb
    have d1 := d1.otF w2 o3
    have o13 := (o1.trans o2).trans o3
    refine ⟨_, _, rfl, ?_⟩
    refine ⟨Nat.zero_le _, fun D hD => ?_⟩
    have s4 := same_upd (o := .lst []) hD
    have e4 : upd H3 D (.lst []) D = some (.lst []) := upd_same
    have oD : D ≠ o := fun z => by
      obtain ⟨⟨dx, l, e, _⟩, _⟩ := w3
      rw [z, e] at hD
      cases hD
    generalize upd H3 D (.lst []) = H4 at s4 e4 ⊢
    refine ⟨fun m σ H' => ∃ (a' : Nat) (wo : List (List Use × List Cnd)) (xs : List V) (v4 : Option V), σ = [some (.ref o), some v1, some v2, some (.ref D), v4] ∧ Ot o H H' ∧ WAt C o H' ws a' ∧ FD K H' v1 (usR us) 2 ∧ FD K H' v2 (whR wh) 2 ∧ H' D = some (.lst xs) ∧ FDs K H' xs (wo.map woPR) 3 ∧ xs.length ≤ a' ∧
        m = ws.length - a' ∧ woT ws c = glue wo (woT ws a'),
      ⟨_, c, [], [], none, rfl, o13.same s4, w3.same s4, d1.sameF s4, d2.sameF s4, e4, .nil, Nat.zero_le _, rfl, (glue_nil _).symm⟩, ?_⟩
    rintro m σ H5 ⟨a', wo, xs, v4, rfl, o5, w5, d15, d25, e5, dx5, ll, em, er⟩
    obtain ⟨⟨dx, l, f1, f2⟩, le5⟩ := id w5
    have st := wo_step ws a'
    refine ⟨_, rfl, o, dx, _, rfl, f1, rfl, o, ws, a', _, rfl, w5, sm, by decide +kernel, fun ew H6 o6 w6 => ⟨_, rfl, ?_⟩, fun ew => ⟨_, rfl, ?_⟩⟩
    · rw [if_pos ew] at st
      refine iteT ⟨fun σ' H' => ∃ m', m' < m ∧ ∃ (a' : Nat) (wo : List (List Use × List Cnd)) (xs : List V) (v4 : Option V), σ' = [some (.ref o), some v1, some v2, some (.ref D), v4] ∧ Ot o H H' ∧ WAt C o H' ws a' ∧ FD K H' v1 (usR us) 2 ∧ FD K H' v2 (whR wh) 2 ∧ H' D = some (.lst xs) ∧ FDs K H' xs (wo.map woPR) 3 ∧ xs.length ≤ a' ∧
        m' = ws.length - a' ∧ woT ws c = glue wo (woT ws a'), fun _ _ z => z, ?_⟩
      have o56 := o5.trans o6
      have lt := get_lt ew
      refine ⟨_, rfl, o, ws, a' + 1, rfl, w6, sm, fun us2 b2 eus2 v5 H7 o7 w7 d5 => ?_, fun eus2 H7 o7 => no (by rw [eb, er, st]; unfold wo1; rw [eus2]; rfl) H7 (o56.trans o7)⟩
      have e7 : H7 D = some (.lst xs) := o7.keep D _ oD (o6.keep D _ oD e5)
      refine ⟨_, rfl, .inl ⟨rfl, _, SqL.of e7⟩, ?_⟩
      refine ⟨_, rfl, _, rfl, o, ws, b2, rfl, w7, sm, fun wh2 c2 ewh2 v6 H8 o8 w8 d6 => ?_, fun ewh2 H8 o8 => no (by rw [eb, er, st]; unfold wo1; rw [eus2]; dsimp only; rw [ewh2]; rfl) H8 ((o56.trans o7).trans o8)⟩
      have ew12 : wo1 ws (a' + 1) = some ((us2, wh2), c2) := by
        unfold wo1
        rw [eus2]
        dsimp only
        rw [ewh2]
      rw [ew12] at st
      dsimp only at st
      obtain ⟨g1, g2, g3⟩ := wo1_on ew12
      have e8 : H8 D = some (.lst xs) := o8.keep D _ oD e7
      have o68 := (o6.trans o7).trans o8
      refine ⟨by show 2 ≤ sizeLine; omega, fun q ob hq ho => ?_⟩
      have dp : FDs K H8 [v5, v6] [usR us2, whR wh2] 2 := .cons (d5.otF w7 o8) (.cons d6 .nil)
      have dt := dp.tupF hq ho
      have s9 := same_upd (o := .frz ob (.tup [v5, v6])) hq
      have e9 := s9 _ _ e8
      have w9 := w8.same s9
      have d19 := (d15.otF w5 o68).sameF s9
      have d29 := (d25.otF w5 o68).sameF s9
      have dx9 := (dx5.otF w5 o68).sameF s9
      have o9 := (o5.trans o68).same s9
      generalize upd H8 q (.frz ob (.tup [v5, v6])) = H9 at dt s9 e9 w9 d19 d29 dx9 o9 ⊢
      have nl : NL H9 (upd H9 D (.lst (xs ++ [V.ref q]))) := fun b u n e => by
        rw [upd_ne fun z => by rw [z, e9] at e; exact n _ (Option.some.inj e).symm]
        exact e
      have w10 : WAt C o (upd H9 D (.lst (xs ++ [V.ref q]))) ws c2 := w9.put oD e9 (dx9.refs wo_tup) (by omega)
      refine ⟨D, xs, _, rfl, rfl, e9, by omega, ?_⟩
      refine ⟨ws.length - c2, by omega, c2, wo ++ [(us2, wh2)], xs ++ [V.ref q], some v5, rfl, ⟨fun b u nb e => ?_, ?_⟩, w10, d19.nlF nl, d29.nlF nl, upd_same, ?_, ?_, rfl, ?_⟩
      · rw [upd_ne fun z => by rw [z, o13.free hD] at e; cases e]
        exact o9.keep b u nb e
      · obtain ⟨u, e⟩ := o9.there
        exact ⟨u, (upd_ne oD.symm).trans e⟩
      · rw [List.map_append]
        exact (dx9.nlF nl).append (.cons (dt.nlF nl) .nil)
      · rw [List.length_append]
        show xs.length + 1 ≤ c2
        omega
      · rw [er, st]
        cases woT ws c2 with
        | none => rfl
        | some q =>
          obtain ⟨ps, b⟩ := q
          show some (wo ++ ((us2, wh2) :: ps), b) = some ((wo ++ [(us2, wh2)]) ++ ps, b)
          rw [List.append_assoc]
          rfl
    · rw [if_neg ew] at st
      refine iteF ?_
      rw [st] at er
      have er : woT ws c = some (wo, a') := by
        rw [er]
        show some (wo ++ [], a') = _
        rw [List.append_nil]
      rw [er] at eb
      dsimp only at eb
      refine ⟨_, rfl, _, rfl, _, rfl, D, _, rfl, SqL.of e5, fun q ob hq ho => ?_⟩
      have dt := dx5.tupF hq ho
      have s6 := same_upd (o := .frz ob (.tup xs)) hq
      have w6 := w5.same s6
      have d16 := d15.sameF s6
      have d26 := d25.sameF s6
      have o6 := o5.same s6
      generalize upd H5 q (.frz ob (.tup xs)) = H6 at dt s6 w6 d16 d26 o6 ⊢
      refine ⟨by show 3 ≤ sizeLine; omega, fun r oc hr' hc => ?_⟩
      have s7 := same_upd (o := .frz oc (.tup [v1, v2, .ref q])) hr'
      exact yes ⟨us, wh, wo⟩ a' eb _ _ (o6.same s7) (w6.same s7) ⟨r, v1, v2, .ref q, rfl, .inl (.inr ⟨oc, upd_same⟩), d16.sameF s7, d26.sameF s7, dt.sameF s7⟩
end
end Vm
/-! the program reads: selects, what follows them -/
namespace Vm
open PySem PySem.Spec PyProof.Rows L2 TL
abbrev sKept : Stmt := top 32
abbrev sEnd : Stmt := top 33
def firT (b : Bd) (k : List Str) (ws : List Str) (c : Nat) : Option (Qn × Nat) := match ws[c + 1]?, ws[c + 2]?, ws[c + 3]? with
  | some n, some w, some y => if numW n = true ∧ 1 ≤ intW n ∧ w = "by" ∧ colB y = true then
      if ws[c + 4]? = some ("falling" : Str) then some (.fst b k y (intW n) true, c + 5) else some (.fst b k y (intW n) false, c + 4)
    else none
  | _, _, _ => none
def endT (b : Bd) (k : List Str) (ws : List Str) (c : Nat) : Option (Qn × Nat) := if ws[c]? = some ("or" : Str) then
    match selT ws (c + 1) with
    | none => none
    | some (p, e) => some (.uni b k p.1 p.2, e)
  else if ws[c]? = some ("first" : Str) then firT b k ws c
  else some (.sel b k, c)
def rawT (ws : List Str) : Option (Qn × Nat) := match bodyT ws 0 with
  | none => none
  | some (b, a) => if ws[a]? = some ("group" : Str) then
      match grpT ws (a + 1) with
      | none => none
      | some (p, e) => some (.grp b p.1 p.2.1 p.2.2.1 p.2.2.2, e)
    else match keepT ws a with
      | none => none
      | some (k, c) => endT b k ws c
def endQ (ws : List Str) (r : Option (Qn × Nat)) : Option Qn := match r with
  | none => none
  | some (q, e) => if e = ws.length then some q else none
theorem qn_raw (ws : List Str) : qnT ws = endQ ws (rawT ws) := by
  unfold qnT rawT
  cases bodyT ws 0 with
  | none => rfl
  | some p =>
    obtain ⟨b, a⟩ := p
    dsimp only
    split
    · cases grpT ws (a + 1) with
      | none => rfl
      | some p => rfl
    · cases keepT ws a with
      | none => rfl
      | some p =>
        obtain ⟨k, c⟩ := p
        dsimp only
        unfold endT
        split
        · cases selT ws (c + 1) with
          | none => rfl
          | some p => rfl
        · split
          · unfold firstT firT
            cases ws[c + 1]? with
            | none => rfl
            | some n =>
              cases ws[c + 2]? with
              | none => rfl
              | some w =>
                cases ws[c + 3]? with
                | none => rfl
                | some y =>
                  dsimp only
                  split
                  · split <;> rfl
                  · rfl
          · rfl
/-- a select stands -/
def SelAt (K : PySem.W.Frag) (CS : Addr) (H : Hp) (v : V) (b : Bd) (k : List Str) : Prop := ∃ x dx v1 v2 v3 v4, v = .ref x ∧ H x = some (.ins CS dx [("uses", v1), ("keep", v2), ("where", v3), ("without", v4)]) ∧
  FD K H v1 (usR b.us) 2 ∧ FD K H v2 (csR k) 1 ∧ FD K H v3 (whR b.wh) 2 ∧ FD K H v4 (woR b.wo) 4
theorem SelAt.same {K : PySem.W.Frag} {CS : Addr} {H H' : Hp} {v : V} {b : Bd} {k : List Str} (h : SelAt K CS H v b k) (s : Same H H') : SelAt K CS H' v b k := by
  obtain ⟨x, dx, v1, v2, v3, v4, e, hx, d1, d2, d3, d4⟩ := h
  exact ⟨x, dx, v1, v2, v3, v4, e, s _ _ hx, d1.sameF s, d2.sameF s, d3.sameF s, d4.sameF s⟩
theorem SelAt.ot {K : PySem.W.Frag} {CS C o : Addr} {H H' : Hp} {v : V} {b : Bd} {k : List Str} {ws : List Str} {a : Nat} (h : SelAt K CS H v b k) (n : v ≠ .ref o) (w : WAt C o H ws a) (s : Ot o H H') : SelAt K CS H' v b k := by
  obtain ⟨x, dx, v1, v2, v3, v4, e, hx, d1, d2, d3, d4⟩ := h
  exact ⟨x, dx, v1, v2, v3, v4, e, s.keep _ _ (fun z => n (by rw [e, z])) hx, d1.otF w s, d2.otF w s, d3.otF w s, d4.otF w s⟩
theorem take1 (ws : List Str) (a : Nat) : (ws.drop a).take 1 = match ws[a]? with
    | some x => [x]
    | none => [] := by
  rw [← List.head?_drop]
  cases ws.drop a <;> rfl
def spKept (K : PySem.W.Frag) (C CS CE : Addr) : Sp := fun vs H Q E => ∃ (o : Addr) (ws : List Str) (a : Nat) (b : Bd) (v1 v2 v3 : V), vs = [.ref o, v1, v2, v3] ∧ WAt C o H ws a ∧ SmQ ws ∧ FD K H v1 (usR b.us) 2 ∧ FD K H v2 (whR b.wh) 2 ∧ FD K H v3 (woR b.wo) 4 ∧
  rdW C o CE ws (keepT ws a) H (fun k v H' => SelAt K CS H' v b k ∧ v ≠ .ref o) Q E
section
variable {P : Program} {w : World} {K : PySem.W.Frag} {mg : Str → Option Value} {base : Heap} {C CS CU CF CE fE fU fT fP fX fI fRC fRI fCs fSI fUI fFI fBd fKp : Addr}
theorem scKept : FnScope ["words", "uses", "where", "without"] ["words", "uses", "where", "without"] (defScope sKept) := ⟨rfl, rfl, rfl, by decide +kernel, rfl, by decide +kernel, by decide +kernel⟩
theorem ok_kept {f : Addr} {fd fdX fdC fdS : FuncData} (F : Fun K "_read_kept" "_read_kept" sKept f fd) (T : TxtWd K mg C fE fU fT fP fX fI)
    (GX : FnOk P w K mg base (L2.CX P w) 4 fX fdX ["self", "word"] (spExpect C CE)) (bX : Binds K fdX ["self", "word"] [])
    (cC : Calls K mg "_read_columns" fCs) (GC : FnOk P w K mg base (L2.CX P w) 4 fCs fdC ["words"] (spCols9 K C CE)) (bC : Binds K fdC ["words"] [])
    (M : Mk K CS fSI) (gS : mg "Select" = some (.ref CS)) (GS : FnOk P w K mg base CX0 1 fSI fdS ["self", "uses", "keep", "where", "without"] (spIni CS ["uses", "keep", "where", "without"])) (bS : Binds K fdS ["self", "uses", "keep", "where", "without"] []) :
    FnOk P w K mg base (L2.CX P w) 5 f fd ["words", "uses", "where", "without"] (spKept K C CS CE) := by
  refine F.okX scKept (fun vs H Q E h => ?_) (fun cdv A outer s H vs Q E hr h => ?_)
  · obtain ⟨o, ws, a, b, v1, v2, v3, rfl, _⟩ := h
    rfl
  · obtain ⟨o, ws, a, b, v1, v2, v3, rfl, wa, sm, d1, d2, d3, yes, no⟩ := h
    have tk := takes_of (X := cxOf (L2.CX P w) P w K mg base ["words", "uses", "where", "without"] "_read_kept" (defScope sKept) f cdv A outer s H E) (E := E) rfl rfl rfl rfl
    refine ⟨_, pss_cons (ps_expr (pe_meth (E := E) (pv 0) T.cl T.mX GX hr bX .nil (passes_call tk (fun _ _ _ _ h => h)) (pa_cons pe_str pa_nil)))
      (pss_one (ps_ret (pe_make M GS (hr.mono (by decide)) (by rfl) gS bS .nil pass0 (pa_cons (pv 1) (pa_cons (pe_callS (E := fun _ => E) GC hr rfl cC.g cC.k bC (fun σ => passAt tk σ) (pa_cons (pv 0) pa_nil)) (pa_cons (pv 2) (pa_cons (pv 3) pa_nil))))))), ?_⟩
    obtain ⟨⟨dx, l, e1, e2⟩, le⟩ := id wa
    refine ⟨_, rfl, o, dx, _, rfl, e1, rfl, o, ws, a, _, rfl, wa, sm, by decide +kernel, fun ek H1 o1 w1 => ?_, fun ek => no (if_neg ek) H (wa.ot (Same.refl H))⟩
    have ek2 : keepT ws a = ents colT ws 1 (a + 1) := if_pos ek
    refine ⟨_, rfl, _, rfl, o, ws, a + 1, rfl, w1, sm, fun k c ec vk H2 o2 w2 dk => ?_, fun ec H2 o2 => no (by rw [ek2, ec]) H2 (o1.trans o2)⟩
    have o12 := o1.trans o2
    refine ⟨_, rfl, _, rfl, fun x xd nx nxd ne => ?_⟩
    refine ⟨x, xd, _, rfl, rfl, upd_same, fun H3 kp e3 => ⟨rfl, ?_⟩⟩
    have s3 : Same H2 H3 := fun b u e => kp b u (ne_of_none e nx) (by
      rw [upd_ne (ne_of_none e nx), upd_ne (ne_of_none e nxd)]
      exact e)
    have nxo : V.ref x ≠ .ref o := fun z => by
      obtain ⟨⟨_, _, g1, _⟩, _⟩ := w2
      rw [V.ref.inj z, g1] at nx
      cases nx
    exact yes k c (by rw [ek2, ec]) _ H3 (o12.same s3) (w2.same s3) ⟨⟨x, xd, v1, vk, v2, v3, rfl, e3, (d1.otF wa o12).sameF s3, dk.sameF s3, (d2.otF wa o12).sameF s3, (d3.otF wa o12).sameF s3⟩, nxo⟩
end
end Vm
/-! the program reads: what follows a select -/
namespace Vm
open PySem PySem.Spec PyProof.Rows L2 TL
/-- a question stands -/
def QAt (K : PySem.W.Frag) (CS CU CF CG : Addr) (H : Hp) (v : V) : Qn → Prop
  | .sel b k => SelAt K CS H v b k
  | .uni b k b' k' => ∃ x dx s1 s2, v = .ref x ∧ H x = some (.ins CU dx [("first", s1), ("second", s2)]) ∧ SelAt K CS H s1 b k ∧ SelAt K CS H s2 b' k'
  | .fst b k y n f => ∃ x dx s, v = .ref x ∧ H x = some (.ins CF dx [("select", s), ("by", .str y), ("count", .int n), ("falling", .bl f)]) ∧ SelAt K CS H s b k ∧ FD K H (.str y) (.str y) 0 ∧ FD K H (.int n) (.int n) 0
  | .grp b y l g h => ∃ x dx v1 v2 v3 v4 v5 v6 v7, v = .ref x ∧ H x = some (.ins CG dx [("uses", v1), ("by", v2), ("where", v3), ("without", v4), ("least", v5), ("greatest", v6), ("having", v7)]) ∧
      FD K H v1 (usR b.us) 2 ∧ FD K H v2 (csR y) 1 ∧ FD K H v3 (whR b.wh) 2 ∧ FD K H v4 (woR b.wo) 4 ∧ FD K H v5 (optR l) 0 ∧ FD K H v6 (optR g) 0 ∧ FD K H v7 (hvR h) 2
def spEnd9 (K : PySem.W.Frag) (C CS CU CF CG CE : Addr) : Sp := fun vs H Q E => ∃ (o : Addr) (ws : List Str) (c : Nat) (b : Bd) (k : List Str) (sv : V), vs = [.ref o, sv] ∧ WAt C o H ws c ∧ SmQ ws ∧ SelAt K CS H sv b k ∧ sv ≠ .ref o ∧
  rdW C o CE ws (endT b k ws c) H (fun q v H' => QAt K CS CU CF CG H' v q) Q E
theorem fresh_ne {C o x : Addr} {H : Hp} {ws : List Str} {a : Nat} (w : WAt C o H ws a) (n : H x = none) : V.ref x ≠ .ref o := fun z => by
  obtain ⟨⟨_, _, g1, _⟩, _⟩ := w
  rw [V.ref.inj z, g1] at n
  cases n
theorem take1_res (ws : List Str) (a : Nat) : (if ((ws.drop a).take 1).length < 1 then none else some ((ws.drop a).take 1, a + 1)) = (ws[a]?).map fun x => ([x], a + 1) := by
  rw [take1]
  cases ws[a]? <;> rfl
theorem take1_some {ws : List Str} {a b : Nat} {t : List Str} (h : (if ((ws.drop a).take 1).length < 1 then none else some ((ws.drop a).take 1, a + 1)) = some (t, b)) : ∃ x, ws[a]? = some x ∧ t = [x] ∧ b = a + 1 := by
  rw [take1_res] at h
  cases e : ws[a]? with
  | none =>
    rw [e] at h
    cases h
  | some x =>
    rw [e] at h
    have h := Option.some.inj h
    injection h with h1 h2
    exact ⟨x, rfl, h1.symm, h2.symm⟩
theorem take1_none {ws : List Str} {a : Nat} (h : (if ((ws.drop a).take 1).length < 1 then none else some ((ws.drop a).take 1, a + 1)) = none) : ws[a]? = none := by
  rw [take1_res] at h
  cases e : ws[a]? with
  | none => rfl
  | some x =>
    rw [e] at h
    cases h
section
variable {P : Program} {w : World} {K : PySem.W.Frag} {mg : Str → Option Value} {base : Heap} {C CS CU CF CG CE fE fU fT fP fX fI fRC fRI fCs fUI fFI fBd fKp : Addr}
abbrev nmEnd : List Str := ["words", "select", "uses", "where", "without", "count", "by"]
theorem scEnd : FnScope nmEnd ["words", "select"] (defScope sEnd) := ⟨rfl, rfl, rfl, by decide +kernel, rfl, by decide +kernel, by decide +kernel⟩
theorem ok_end {f : Addr} {fd fdX fdP fdT fdB fdK fdI fdC fdU fdF : FuncData} (F : Fun K "_read_end" "_read_end" sEnd f fd) (T : TxtWd K mg C fE fU fT fP fX fI) (Z : TxtX K mg CE)
    (GX : FnOk P w K mg base (L2.CX P w) 4 fX fdX ["self", "word"] (spExpect C CE)) (bX : Binds K fdX ["self", "word"] [])
    (GP : FnOk P w K mg base CX0 3 fP fdP ["self", "word"] (spPasses C)) (bP : Binds K fdP ["self", "word"] [])
    (GT : FnOk P w K mg base (L2.CX P w) 1 fT fdT ["self", "count"] (spTake C CE)) (bT : Binds K fdT ["self", "count"] [])
    (cB : Calls K mg "_read_body" fBd) (GB : FnOk P w K mg base (L2.CX P w) 6 fBd fdB ["words"] (spBody K C CE)) (bB : Binds K fdB ["words"] [])
    (cK : Calls K mg "_read_kept" fKp) (GK : FnOk P w K mg base (L2.CX P w) 5 fKp fdK ["words", "uses", "where", "without"] (spKept K C CS CE)) (bK : Binds K fdK ["words", "uses", "where", "without"] [])
    (cI : Calls K mg "_read_integer" fRI) (GI : FnOk P w K mg base (L2.CX P w) 2 fRI fdI ["word"] (spReadInt CE)) (bI : Binds K fdI ["word"] [])
    (cC : Calls K mg "_read_column" fRC) (GC : FnOk P w K mg base (L2.CX P w) 3 fRC fdC ["word"] (spReadCol CE)) (bC : Binds K fdC ["word"] [])
    (MU : Mk K CU fUI) (gU : mg "Union" = some (.ref CU)) (GU : FnOk P w K mg base CX0 1 fUI fdU ["self", "first", "second"] (spIni CU ["first", "second"])) (bU : Binds K fdU ["self", "first", "second"] [])
    (MF : Mk K CF fFI) (gF : mg "First" = some (.ref CF)) (GF : FnOk P w K mg base CX0 1 fFI fdF ["self", "select", "by", "count", "falling"] (spIni CF ["select", "by", "count", "falling"])) (bF : Binds K fdF ["self", "select", "by", "count", "falling"] []) :
    FnOk P w K mg base (L2.CX P w) 7 f fd ["words", "select"] (spEnd9 K C CS CU CF CG CE) := by
  refine F.okX scEnd (fun vs H Q E h => ?_) (fun cdv A outer s H vs Q E hr h => ?_)
  · obtain ⟨o, ws, c, b, k, sv, rfl, _⟩ := h
    rfl
  · obtain ⟨o, ws, c, b, k, sv, rfl, wa, sm, sa, ns, yes, no⟩ := h
    have tk := takes_of (X := cxOf (L2.CX P w) P w K mg base nmEnd "_read_end" (defScope sEnd) f cdv A outer s H E) (E := E) rfl rfl rfl rfl
    have hr1 : Room 1 _ := hr.mono (by decide)
    have hr2 : Room 2 _ := hr.mono (by decide)
    have hr3 : Room 3 _ := hr.mono (by decide)
    have hr4 : Room 4 _ := hr.mono (by decide)
    have hr5 : Room 5 _ := hr.mono (by decide)
    have many := sm.many
    refine ⟨_, pss_cons (ps_if (pt_val (pe_meth (pv 0) T.cl T.mP GP hr3 bP .nil pass0 (pa_cons pe_str pa_nil)))
        (pss_cons (ps_asg (pe_callS (E := fun _ => E) GB hr rfl cB.g cB.k bB (fun σ => passAt tk σ) (pa_cons (pv 0) pa_nil)) (pg_tup rfl (pgs_cons (pg_name (i := 2) scEnd.nd rfl (Or.inl rfl)) (pgs_cons (pg_name (i := 3) scEnd.nd rfl (Or.inl rfl)) (pgs_cons (pg_name (i := 4) scEnd.nd rfl (Or.inl rfl)) pgs_nil)))))
        (pss_one (ps_ret (pe_make MU GU hr2 (by rfl) gU bU .nil pass0 (pa_cons (pv 1) (pa_cons (pe_callS (E := fun _ => E) GK hr5 rfl cK.g cK.k bK (fun σ => passAt tk σ) (pa_cons (pv 0) (pa_cons (pv 2) (pa_cons (pv 3) (pa_cons (pv 4) pa_nil))))) pa_nil)))))) pss_nil)
      (pss_cons (ps_if (pt_not (pt_val (pe_meth (pv 0) T.cl T.mP GP hr3 bP .nil pass0 (pa_cons pe_str pa_nil)))) (pss_one (ps_ret (pv 1))) pss_nil)
      (pss_cons (ps_set (i := 5) scEnd.nd rfl (Or.inl rfl) (pe_callS (E := fun _ => E) GI hr2 rfl cI.g cI.k bI (fun σ => passAt tk σ) (pa_cons (pe_ix ix_list (pe_meth (E := E) (pv 0) T.cl T.mT GT hr1 bT .nil (passes_call tk (fun _ _ _ _ h => h)) (pa_cons pe_int pa_nil)) pe_int (fun _ _ => rfl)) pa_nil)))
      (pss_cons (ps_if (pt_cmpR op_lt (pv 5) pe_int (nomark _)) (pss_one (ps_raise rfl (takes_of rfl rfl rfl rfl) (pmk_ret rfl (pe_xbare PySem.F.excBase_ValueError Z.x Z.g Z.k rfl)))) pss_nil)
      (pss_cons (ps_expr (pe_meth (E := E) (pv 0) T.cl T.mX GX hr4 bX .nil (passes_call tk (fun _ _ _ _ h => h)) (pa_cons pe_str pa_nil)))
      (pss_cons (ps_set (i := 6) scEnd.nd rfl (Or.inl rfl) (pe_callS (E := fun _ => E) GC hr3 rfl cC.g cC.k bC (fun σ => passAt tk σ) (pa_cons (pe_ix ix_list (pe_meth (E := E) (pv 0) T.cl T.mT GT hr1 bT .nil (passes_call tk (fun _ _ _ _ h => h)) (pa_cons pe_int pa_nil)) pe_int (fun _ _ => rfl)) pa_nil)))
      (pss_one (ps_ret (pe_make MF GF hr2 (by rfl) gF bF .nil pass0 (pa_cons (pv 1) (pa_cons (pv 6) (pa_cons (pv 5) (pa_cons (pe_meth (pv 0) T.cl T.mP GP hr3 bP .nil pass0 (pa_cons pe_str pa_nil)) pa_nil)))))))))))), ?_⟩
    obtain ⟨⟨dx, l, e1, e2⟩, le⟩ := id wa
    refine ⟨_, rfl, o, dx, _, rfl, e1, rfl, o, ws, c, _, rfl, wa, sm, by decide +kernel, fun eo H1 o1 w1 => ⟨_, rfl, iteT ?_⟩, fun eo => ⟨_, rfl, iteF ?_⟩⟩
    · -- a union
      have ee : endT b k ws c = match selT ws (c + 1) with
          | none => none
          | some (p, e) => some (.uni b k p.1 p.2, e) := if_pos eo
      refine ⟨_, rfl, o, ws, c + 1, rfl, w1, sm, fun b2 a2 eb vb H2 o2 w2 ab => ?_, fun eb H2 o2 => no (by rw [ee]; unfold selT; rw [eb]) H2 (o1.trans o2)⟩
      obtain ⟨p, v1, v2, v3, rfl, hp, d1, d2, d3⟩ := ab
      refine ⟨p, _, rfl, hp, rfl, _, _, rfl, _, _, rfl, _, _, rfl, rfl, ?_⟩
      refine ⟨_, rfl, _, rfl, _, rfl, _, rfl, _, rfl, o, ws, a2, b2, v1, v2, v3, rfl, w2, sm, d1, d2, d3, fun k2 a3 ek vk H3 o3 w3 ⟨sk, nk⟩ => ?_, fun ek H3 o3 => no (by rw [ee]; unfold selT; rw [eb]; dsimp only; rw [ek]) H3 ((o1.trans o2).trans o3)⟩
      have o13 := (o1.trans o2).trans o3
      refine fun x xd nx nxd ne => ?_
      refine ⟨x, xd, _, rfl, rfl, upd_same, fun H4 kp e4 => ⟨rfl, ?_⟩⟩
      have s4 : Same H3 H4 := fun b u e => kp b u (ne_of_none e nx) (by
        rw [upd_ne (ne_of_none e nx), upd_ne (ne_of_none e nxd)]
        exact e)
      refine yes (.uni b k b2 k2) a3 ?_ _ H4 (o13.same s4) (w3.same s4) ⟨x, xd, sv, vk, rfl, e4, (sa.ot ns wa o13).same s4, sk.same s4⟩
      rw [ee]
      unfold selT
      rw [eb]
      dsimp only
      rw [ek]
    · refine ⟨_, rfl, o, dx, _, rfl, e1, rfl, o, ws, c, _, rfl, wa, sm, by decide +kernel, fun ef H1 o1 w1 => ⟨_, rfl, iteF ?_⟩, fun ef => ⟨_, rfl, iteT ⟨_, rfl, ?_⟩⟩⟩
      rotate_left
      · exact yes (.sel b k) c (by unfold endT; rw [if_neg eo, if_neg ef]) _ H (wa.ot (Same.refl H)) wa sa
      have ee : endT b k ws c = firT b k ws c := by
        unfold endT
        rw [if_neg eo, if_pos ef]
      unfold firT at ee
      obtain ⟨⟨dx1, l1, f1, g1⟩, le1⟩ := id w1
      refine ⟨_, rfl, o, dx1, _, rfl, f1, rfl, o, ws, c + 1, 1, rfl, w1, sm, by decide, fun t a2 et v H2 o2 w2 ⟨p, ev, np, ep⟩ => ?_, fun et H2 o2 => no (by rw [ee, take1_none et]) H2 (o1.trans o2)⟩
      subst ev
      obtain ⟨x, ex, rfl, rfl⟩ := take1_some et
      rw [ex] at ee
      have ox := sm.wd (List.mem_of_getElem? ex)
      have o12 := o1.trans o2
      refine ⟨p, _, _, _, rfl, rfl, SqL.of ep, rfl, x, rfl, ox, fun nx H3 s3 => ?_, fun nx H3 s3 => no ?_ H3 (o12.same s3)⟩
      rotate_left
      · rw [ee]
        cases ws[c + 2]? with
        | none => rfl
        | some w => cases ws[c + 3]? with
          | none => rfl
          | some y =>
            dsimp only
            rw [if_neg (by rintro ⟨z, _⟩; rw [nx] at z; cases z)]
      have o13 := o12.same s3
      have w3 := w2.same s3
      refine ⟨_, rfl, _, _, rfl, rfl, _, rfl, ?_⟩
      refine ite_ (fun lt => ?_) (fun lt => ?_)
      · refine bad_of Z.b Z.t (fun a na => o13.free na) (no ?_ H3 o13)
        rw [ee]
        cases ws[c + 2]? with
        | none => rfl
        | some w => cases ws[c + 3]? with
          | none => rfl
          | some y =>
            dsimp only
            rw [if_neg (by rintro ⟨_, z, _⟩; omega)]
      obtain ⟨⟨dx3, l3, f3, g3⟩, le3⟩ := id w3
      refine ⟨_, rfl, o, dx3, _, rfl, f3, rfl, o, ws, c + 1 + 1, _, rfl, w3, sm, by decide +kernel, fun eby H4 o4 w4 => ?_, fun eby => no ?_ H3 o13⟩
      rotate_left
      · rw [ee]
        cases e2 : ws[c + 2]? with
        | none => rfl
        | some w => cases ws[c + 3]? with
          | none => rfl
          | some y =>
            dsimp only
            rw [if_neg (by rintro ⟨_, _, z, _⟩; exact eby (by rw [← z]; exact e2))]
      have e2 : ws[c + 2]? = some ("by" : Str) := eby
      rw [e2] at ee
      have o14 := o13.trans o4
      obtain ⟨⟨dx4, l4, f4, g4⟩, le4⟩ := id w4
      refine ⟨_, rfl, o, dx4, _, rfl, f4, rfl, o, ws, c + 1 + 1 + 1, 1, rfl, w4, sm, by decide, fun t a5 et v H5 o5 w5 ⟨p5, ev, np5, ep5⟩ => ?_, fun et H5 o5 => no (by rw [ee, show ws[c + 3]? = none from take1_none et]) H5 (o14.trans o5)⟩
      subst ev
      obtain ⟨y, ey, rfl, rfl⟩ := take1_some et
      have ey : ws[c + 3]? = some y := ey
      rw [ey] at ee
      dsimp only at ee
      have oy := sm.wd (List.mem_of_getElem? ey)
      have o15 := o14.trans o5
      refine ⟨p5, _, _, _, rfl, rfl, SqL.of ep5, rfl, y, rfl, oy, fun cy H6 s6 => ?_, fun cy H6 s6 => no ?_ H6 (o15.same s6)⟩
      rotate_left
      · rw [ee, if_neg (by rintro ⟨_, _, _, z⟩; rw [cy] at z; cases z)]
      have o16 := o15.same s6
      have w6 := w5.same s6
      have sa6 := sa.ot ns wa o16
      rw [if_pos ⟨nx, by omega, rfl, cy⟩] at ee
      obtain ⟨⟨dx6, l6, f6, g6⟩, le6⟩ := id w6
      have fin : ∀ (fl : Bool) (e : Nat) (H7 : Hp), endT b k ws c = some (.fst b k y (intW x) fl, e) → Ot o H H7 → WAt C o H7 ws e → SelAt K CS H7 sv b k →
          ∀ (z xd : Addr), H7 z = none → H7 xd = none → xd ≠ z → spIni CF ["select", "by", "count", "falling"] (.ref z :: ([sv, .str y, .int (intW x), .bl fl] ++ [])) (upd (upd H7 xd (.own z)) z (.ins CF xd [])) (fun v H2 => v = .non ∧ Q (.ref z) H2) E0 := fun fl e H7 eq o7 w7 s7 z xd nz nxd ne => by
        refine ⟨z, xd, _, rfl, rfl, upd_same, fun H8 kp e8 => ⟨rfl, ?_⟩⟩
        have s8 : Same H7 H8 := fun b u e => kp b u (ne_of_none e nz) (by
          rw [upd_ne (ne_of_none e nz), upd_ne (ne_of_none e nxd)]
          exact e)
        exact yes _ e eq _ H8 (o7.same s8) (w7.same s8) ⟨z, xd, sv, rfl, e8, s7.same s8, oy.dp, int_dp ox nx⟩
      refine ⟨_, rfl, _, rfl, _, rfl, _, rfl, o, dx6, _, rfl, f6, rfl, o, ws, c + 1 + 1 + 1 + 1, _, rfl, w6, sm, by decide +kernel, fun efl H7 o7 w7 => ?_, fun efl => ?_⟩
      · exact fin true (c + 5) H7 (by rw [ee, if_pos efl]) (o16.trans o7) w7 (sa6.ot ns w6 o7)
      · exact fin false (c + 4) H6 (by rw [ee, if_neg efl]) o16 w6 sa6
end
end Vm
/-! the program reads: groups -/
namespace Vm
open PySem PySem.Spec PyProof.Rows L2 TL
abbrev sGroups : Stmt := top 34
/-- what follows, by a word of one's own -/
theorem pss_imp {X : Cx} {b : List Stmt} {t G : TS} (h : PSs X b t) (k : ∀ D σ H, G D σ H → t D σ H) : PSs X b G := ⟨fun pins s σ H D I g => h.run pins s σ H D I (k D σ H g)⟩
theorem dot_str : ("." : Str) = ⟨#[46]⟩ := by decide +kernel
theorem dot_in (x : Str) : decide (46 ∈ x.cps.toList) = dotB x := by
  unfold dotB
  rw [Bool.eq_iff_iff, decide_eq_true_iff, List.any_eq_true]
  exact ⟨fun m => ⟨46, m, rfl⟩, fun ⟨c, m, e⟩ => (beq_iff_eq.mp e) ▸ m⟩
def spGroups (K : PySem.W.Frag) (C CS CU CF CG CE : Addr) : Sp := fun vs H Q E => ∃ (o : Addr) (ws : List Str) (a : Nat) (b : Bd) (v1 v2 v3 : V), vs = [.ref o, v1, v2, v3] ∧ WAt C o H ws a ∧ SmQ ws ∧ FD K H v1 (usR b.us) 2 ∧ FD K H v2 (whR b.wh) 2 ∧ FD K H v3 (woR b.wo) 4 ∧
  rdW C o CE ws (grpT ws a) H (fun p v H' => QAt K CS CU CF CG H' v (.grp b p.1 p.2.1 p.2.2.1 p.2.2.2)) Q E
theorem oneT_yes {w x : Str} {ws : List Str} {a : Nat} (h : ws[a]? = some w) (e : ws[a + 1]? = some x) (c : colB x = true) : oneT w ws a = some (some x, a + 2) := by
  unfold oneT
  rw [if_pos h, e]
  dsimp only
  rw [if_pos c]
theorem oneT_bad {w x : Str} {ws : List Str} {a : Nat} (h : ws[a]? = some w) (e : ws[a + 1]? = some x) (c : colB x = false) : oneT w ws a = none := by
  unfold oneT
  rw [if_pos h, e]
  dsimp only
  rw [if_neg (by rw [c]; decide)]
theorem oneT_end {w : Str} {ws : List Str} {a : Nat} (h : ws[a]? = some w) (e : ws[a + 1]? = none) : oneT w ws a = none := by
  unfold oneT
  rw [if_pos h, e]
theorem oneT_no {w : Str} {ws : List Str} {a : Nat} (h : ws[a]? ≠ some w) : oneT w ws a = some (none, a) := if_neg h
theorem grp1 {ws : List Str} {a : Nat} (h : byT ws a = none) : grpT ws a = none := by
  unfold grpT
  rw [h]
theorem grp2 {ws : List Str} {a i : Nat} {y : List Str} (h : byT ws a = some (y, i)) (e : oneT "least" ws i = none) : grpT ws a = none := by
  unfold grpT
  rw [h]
  dsimp only
  rw [e]
theorem grp3 {ws : List Str} {a i j : Nat} {y : List Str} {l : Option Str} (h : byT ws a = some (y, i)) (e : oneT "least" ws i = some (l, j)) (g : oneT "greatest" ws j = none) : grpT ws a = none := by
  unfold grpT
  rw [h]
  dsimp only
  rw [e]
  dsimp only
  rw [g]
theorem grp4 {ws : List Str} {a i j k : Nat} {y : List Str} {l g : Option Str} (h : byT ws a = some (y, i)) (e : oneT "least" ws i = some (l, j)) (q : oneT "greatest" ws j = some (g, k)) : grpT ws a = match havT ws k with
    | none => none
    | some (h, e) => some ((y, l, g, h), e) := by
  unfold grpT
  rw [h]
  dsimp only
  rw [e]
  dsimp only
  rw [q] <;> rfl
section
variable {P : Program} {w : World} {K : PySem.W.Frag} {mg : Str → Option Value} {base : Heap} {C CS CU CF CG CE fE fU fT fP fX fI fRC fRI fCs fUI fFI fBd fKp fGI fBn : Addr}
abbrev nmGrp : List Str := ["words", "uses", "where", "without", "by", "least", "greatest", "having", "item"]
theorem scGroups : FnScope nmGrp ["words", "uses", "where", "without"] (defScope sGroups) := ⟨rfl, rfl, rfl, by decide +kernel, rfl, by decide +kernel, by decide +kernel⟩
theorem ok_groups {f : Addr} {fd fdU fdP fdT fdI fdC fdR fdB fdG : FuncData} (F : Fun K "_read_groups" "_read_groups" sGroups f fd) (N : TxtN K mg) (T : TxtWd K mg C fE fU fT fP fX fI)
    (GU : FnOk P w K mg base CX0 2 fU fdU ["self"] (spUpc C)) (bU : Binds K fdU ["self"] [])
    (GP : FnOk P w K mg base CX0 3 fP fdP ["self", "word"] (spPasses C)) (bP : Binds K fdP ["self", "word"] [])
    (GT : FnOk P w K mg base (L2.CX P w) 1 fT fdT ["self", "count"] (spTake C CE)) (bT : Binds K fdT ["self", "count"] [])
    (GI : FnOk P w K mg base (L2.CX P w) 2 fI fdI ["self", "size"] (spItems C CE)) (bI : Binds K fdI ["self", "size"] [])
    (cC : Calls K mg "_read_columns" fCs) (GC : FnOk P w K mg base (L2.CX P w) 4 fCs fdC ["words"] (spCols9 K C CE)) (bC : Binds K fdC ["words"] [])
    (cR : Calls K mg "_read_column" fRC) (GR : FnOk P w K mg base (L2.CX P w) 3 fRC fdR ["word"] (spReadCol CE)) (bR : Binds K fdR ["word"] [])
    (cB : Calls K mg "_read_bound" fBn) (GB : FnOk P w K mg base (L2.CX P w) 3 fBn fdB ["item"] (spEnt K CE bndT bndR)) (bB : Binds K fdB ["item"] [])
    (MG : Mk K CG fGI) (gG : mg "Groups" = some (.ref CG)) (GG : FnOk P w K mg base CX0 1 fGI fdG ["self", "uses", "by", "where", "without", "least", "greatest", "having"] (spIni CG ["uses", "by", "where", "without", "least", "greatest", "having"]))
    (bG : Binds K fdG ["self", "uses", "by", "where", "without", "least", "greatest", "having"] []) :
    FnOk P w K mg base (L2.CX P w) 5 f fd ["words", "uses", "where", "without"] (spGroups K C CS CU CF CG CE) := by
  refine F.okX scGroups (fun vs H Q E h => ?_) (fun cdv A outer s H vs Q E hr h => ?_)
  · obtain ⟨o, ws, a, b, v1, v2, v3, rfl, _⟩ := h
    rfl
  · obtain ⟨o, ws, a, b, v1, v2, v3, rfl, wa, sm, d1, d2, d3, yes, no⟩ := h
    have tk := takes_of (X := cxOf (L2.CX P w) P w K mg base nmGrp "_read_groups" (defScope sGroups) f cdv A outer s H E) (E := E) rfl rfl rfl rfl
    have hr1 : Room 1 _ := hr.mono (by decide)
    have hr2 : Room 2 _ := hr.mono (by decide)
    have hr3 : Room 3 _ := hr.mono (by decide)
    have many := sm.many
    have big : sizeLine > 100000 := by decide
    let G1 : TS := fun D σ H1 => D.rt = Q ∧ ∃ (vy : V) (y : List Str) (i1 : Nat), σ = [some (.ref o), some v1, some v2, some v3, some vy, none, none, none, none] ∧ byT ws a = some (y, i1) ∧ Ot o H H1 ∧ WAt C o H1 ws i1 ∧ FD K H1 vy (csR y) 1
    let G2 : TS := fun D σ H1 => D.rt = Q ∧ ∃ (vy vl : V) (y : List Str) (l : Option Str) (i1 i2 : Nat), σ = [some (.ref o), some v1, some v2, some v3, some vy, some vl, none, none, none] ∧ byT ws a = some (y, i1) ∧ oneT "least" ws i1 = some (l, i2) ∧ Ot o H H1 ∧ WAt C o H1 ws i2 ∧ FD K H1 vy (csR y) 1 ∧ FD K H1 vl (optR l) 0
    let G3 : TS := fun D σ H1 => D.rt = Q ∧ ∃ (vy vl vg : V) (y : List Str) (l g : Option Str) (i1 i2 i3 : Nat), σ = [some (.ref o), some v1, some v2, some v3, some vy, some vl, some vg, none, none] ∧ byT ws a = some (y, i1) ∧ oneT "least" ws i1 = some (l, i2) ∧ oneT "greatest" ws i2 = some (g, i3) ∧ Ot o H H1 ∧ WAt C o H1 ws i3 ∧ FD K H1 vy (csR y) 1 ∧ FD K H1 vl (optR l) 0 ∧ FD K H1 vg (optR g) 0
    let G4 : TS := fun D σ H1 => D.rt = Q ∧ ∃ (vy vl vg vh : V) (y : List Str) (l g : Option Str) (h : List Bnd) (i4 : Nat), σ = [some (.ref o), some v1, some v2, some v3, some vy, some vl, some vg, some vh, none] ∧ grpT ws a = some ((y, l, g, h), i4) ∧ Ot o H H1 ∧ WAt C o H1 ws i4 ∧ FD K H1 vy (csR y) 1 ∧ FD K H1 vl (optR l) 0 ∧ FD K H1 vg (optR g) 0 ∧ FD K H1 vh (hvR h) 2
    refine ⟨_, pss_cons (ps_set (i := 4) scGroups.nd rfl (Or.inl rfl) (pe_ifExp (pt_cmpR op_in_sign pe_str (pe_meth0 (pv 0) T.cl T.mU GU hr2 bU .nil pass0) (by rfl)) (pe_callS (E := fun _ => E) GC hr rfl cC.g cC.k bC (fun σ => passAt tk σ) (pa_cons (pv 0) pa_nil)) (pe_tupF pa_nil)))
      (pss_imp (G := G1) (pss_cons (ps_set (i := 5) scGroups.nd rfl (Or.inl rfl) (pe_ifExp (pt_val (pe_meth (pv 0) T.cl T.mP GP hr3 bP .nil pass0 (pa_cons pe_str pa_nil))) (pe_callS (E := fun _ => E) GR hr3 rfl cR.g cR.k bR (fun σ => passAt tk σ) (pa_cons (pe_ix ix_list (pe_meth (E := E) (pv 0) T.cl T.mT GT hr1 bT .nil (passes_call tk (fun _ _ _ _ h => h)) (pa_cons pe_int pa_nil)) pe_int (fun _ _ => rfl)) pa_nil)) pe_non))
      (pss_imp (G := G2) (pss_cons (ps_set (i := 6) scGroups.nd rfl (Or.inl rfl) (pe_ifExp (pt_val (pe_meth (pv 0) T.cl T.mP GP hr3 bP .nil pass0 (pa_cons pe_str pa_nil))) (pe_callS (E := fun _ => E) GR hr3 rfl cR.g cR.k bR (fun σ => passAt tk σ) (pa_cons (pe_ix ix_list (pe_meth (E := E) (pv 0) T.cl T.mT GT hr1 bT .nil (passes_call tk (fun _ _ _ _ h => h)) (pa_cons pe_int pa_nil)) pe_int (fun _ _ => rfl)) pa_nil)) pe_non))
      (pss_imp (G := G3) (pss_cons (ps_set (i := 7) scGroups.nd rfl (Or.inl rfl) (pe_tupF pa_nil))
      (pss_cons (ps_if (pt_val (pe_meth (pv 0) T.cl T.mP GP hr3 bP .nil pass0 (pa_cons pe_str pa_nil)))
        (pss_one (ps_set (i := 7) scGroups.nd rfl (Or.inl rfl) (pe_callTy call_tupleF (by rfl) N.tuple (by decide +kernel) (pa_cons (pe_lcX (own := [("item", 8)]) (g := gName 8) (tt := tYes) (te := fun E => tCall (spEnt K CE bndT bndR) [] E (tCons (tVar 8) tNil)) rfl rfl tk rfl scGroups.nd
          (pi_list (pe_meth (E := E) (pv 0) T.cl T.mI GI hr2 bI .nil (passes_call tk (fun _ _ _ _ h => h)) (pa_cons pe_int pa_nil)))
          (blkOk_by (N := nmGrp) (sc := defScope sGroups) (by decide +kernel)) (fun _ _ _ _ _ _ => pg_name (i := 8) scGroups.nd rfl (Or.inl rfl)) (fun _ _ _ _ _ _ => pts_nil)
          (fun _ _ _ _ _ _ _ ps => by exact (pe_call GB hr3 rfl cB.g cB.k bB .nil ps (pa_cons (pv 8) pa_nil)))) pa_nil)))) pss_nil)
      (pss_imp (G := G4) (pss_one (ps_ret (pe_make MG GG hr2 (by rfl) gG bG .nil pass0 (pa_cons (pv 1) (pa_cons (pv 4) (pa_cons (pv 2) (pa_cons (pv 3) (pa_cons (pv 5) (pa_cons (pv 6) (pa_cons (pv 7) pa_nil)))))))))) (fun D σ H1 g4 => ?_)))) (fun D σ H1 g3 => ?_))) (fun D σ H1 g2 => ?_))) (fun D σ H1 g1 => ?_)), ?_⟩
    · obtain ⟨eD, vy, vl, vg, vh, y, l, g, h, i4, rfl, eg, o1, w1, dy, dl, dg, dh⟩ := g4
      refine ⟨_, rfl, _, rfl, _, rfl, _, rfl, _, rfl, _, rfl, _, rfl, fun z xd nz nxd ne => ?_⟩
      refine ⟨z, xd, _, rfl, rfl, upd_same, fun H2 kp e2 => ⟨rfl, ?_⟩⟩
      have s2 : Same H1 H2 := fun b u e => kp b u (ne_of_none e nz) (by
        rw [upd_ne (ne_of_none e nz), upd_ne (ne_of_none e nxd)]
        exact e)
      show D.rt _ _
      rw [eD]
      exact yes (y, l, g, h) i4 eg _ H2 (o1.same s2) (w1.same s2) ⟨z, xd, v1, vy, v2, v3, vl, vg, vh, rfl, e2, (d1.otF wa o1).sameF s2, dy.sameF s2, (d2.otF wa o1).sameF s2, (d3.otF wa o1).sameF s2, dl.sameF s2, dg.sameF s2, dh.sameF s2⟩
    · obtain ⟨eD, vy, vl, vg, y, l, g, i1, i2, i3, rfl, ey, el, eg, o1, w1, dy, dl, dg⟩ := g3
      have eh := grp4 ey el eg
      refine ⟨Nat.zero_le _, fun p ob hp ho => ?_⟩
      have d0 : FDs K H1 [] [] 1 := .nil
      have dh := d0.tupF hp ho
      have s2 := same_upd (o := .frz ob (.tup [])) hp
      have o2 := o1.same s2
      have w2 := w1.same s2
      have dy := dy.sameF s2
      have dl := dl.sameF s2
      have dg := dg.sameF s2
      show tSeq _ _ _ _ (upd H1 p (.frz ob (.tup [])))
      generalize upd H1 p (.frz ob (.tup [])) = H2 at dh s2 o2 w2 dy dl dg ⊢
      obtain ⟨⟨dx, l1, f1, g1⟩, le1⟩ := id w2
      refine ⟨_, rfl, o, dx, _, rfl, f1, rfl, o, ws, i3, _, rfl, w2, sm, by decide +kernel, fun ew H3 o3 w3 => ⟨_, rfl, iteT ?_⟩, fun ew => ⟨_, rfl, iteF ?_⟩⟩
      rotate_left
      · have e : havT ws i3 = some ([], i3) := if_neg ew
        rw [e] at eh
        exact ⟨eD, vy, vl, vg, .ref p, y, l, g, [], i3, rfl, eh, o2, w2, dy, dl, dg, dh⟩
      have e : havT ws i3 = ents bndT ws 3 (i3 + 1) := if_pos ew
      have eu := e.trans (ents_of bndT ws (show 0 < 3 by decide) (i3 + 1))
      obtain ⟨⟨dx3, l3, f3, g3⟩, le3⟩ := id w3
      have o13 := o2.trans o3
      refine ⟨_, rfl, o, dx3, _, rfl, f3, rfl, o, ws, i3 + 1, 3, rfl, w3, sm, by decide, by decide, fun ts j et v H4 o4 w4 ⟨p4, ls, ev, ep, L⟩ => ?_, fun et H4 o4 => no (by rw [eh, eu, et]) H4 (o13.trans o4)⟩
      subst ev
      rw [et] at eu
      dsimp only at eu
      have on := ents_on (show 0 < 3 by decide) (k := ws.length - (i3 + 1) + 1) (by omega) et
      have pt := ents_part (show 0 < 3 by decide) (k := ws.length - (i3 + 1) + 1) (by omega) et
      have o14 := o13.trans o4
      have o24 := o3.trans o4
      refine ⟨p4, rfl, ⟨_, SqL.of ep⟩, fun D' hD => ?_⟩
      refine ent_turns (f := bndT) (g := bndR) (n := 1) (E := E) ep L hD (by omega) (fun l t Hx Qx Zx mt hl rd => ⟨rfl, ?_⟩) (fun H5 us xs em s5 eD' d5 => ?_) (fun em H' s' => no (by rw [eh, eu, em]; rfl) H' (o14.same s'))
      · dsimp only [tYes]
        rw [if_pos rfl]
        exact ⟨_, rfl, l, t, rfl, SqL.of hl, (pt t mt).1, fun x m => sm.part x ((pt t mt).2 x m), rd⟩
      · refine ⟨D', _, rfl, SqL.of eD', fun q ob6 hq ho6 => ?_⟩
        have s6 := s5.trans (same_upd (o := .frz ob6 (.tup xs)) hq)
        exact ⟨eD, vy, vl, vg, .ref q, y, l, g, us, j, rfl, by rw [eh, eu, em]; rfl, o14.same s6, w4.same s6, (dy.otF w2 o24).sameF s6, (dl.otF w2 o24).sameF s6, (dg.otF w2 o24).sameF s6, d5.tupF hq ho6⟩
    · obtain ⟨eD, vy, vl, y, l, i1, i2, rfl, ey, el, o1, w1, dy, dl⟩ := g2
      obtain ⟨⟨dx, l1, f1, g1⟩, le1⟩ := id w1
      refine ⟨_, rfl, o, dx, _, rfl, f1, rfl, o, ws, i2, _, rfl, w1, sm, by decide +kernel, fun ew H2 o2 w2 => ⟨_, rfl, iteT ?_⟩, fun ew => ⟨_, rfl, iteF ?_⟩⟩
      rotate_left
      · exact ⟨eD, vy, vl, .non, y, l, none, i1, i2, i2, rfl, ey, el, oneT_no ew, o1, w1, dy, dl, .non⟩
      obtain ⟨⟨dx2, l2, f2, g2⟩, le2⟩ := id w2
      have o12 := o1.trans o2
      refine ⟨_, rfl, o, dx2, _, rfl, f2, rfl, o, ws, i2 + 1, 1, rfl, w2, sm, by decide, fun t i' et v H3 o3 w3 ⟨p, ev, np, ep⟩ => ?_, fun et H3 o3 => no (grp3 ey el (oneT_end ew (take1_none et))) H3 (o12.trans o3)⟩
      subst ev
      obtain ⟨x, ex, rfl, rfl⟩ := take1_some et
      have ox := sm.wd (List.mem_of_getElem? ex)
      have o13 := o12.trans o3
      have o23 := o2.trans o3
      refine ⟨p, _, _, _, rfl, rfl, SqL.of ep, rfl, x, rfl, ox, fun cx H4 s4 => ?_, fun cx H4 s4 => no (grp3 ey el (oneT_bad ew ex cx)) H4 (o13.same s4)⟩
      exact ⟨eD, vy, vl, .str x, y, l, some x, i1, i2, i2 + 2, rfl, ey, el, oneT_yes ew ex cx, o13.same s4, w3.same s4, (dy.otF w1 o23).sameF s4, (dl.otF w1 o23).sameF s4, ox.dp⟩
    · obtain ⟨eD, vy, y, i1, rfl, ey, o1, w1, dy⟩ := g1
      obtain ⟨⟨dx, l1, f1, g1⟩, le1⟩ := id w1
      refine ⟨_, rfl, o, dx, _, rfl, f1, rfl, o, ws, i1, _, rfl, w1, sm, by decide +kernel, fun ew H2 o2 w2 => ⟨_, rfl, iteT ?_⟩, fun ew => ⟨_, rfl, iteF ?_⟩⟩
      rotate_left
      · exact ⟨eD, vy, .non, y, none, i1, i1, rfl, ey, oneT_no ew, o1, w1, dy, .non⟩
      obtain ⟨⟨dx2, l2, f2, g2⟩, le2⟩ := id w2
      have o12 := o1.trans o2
      refine ⟨_, rfl, o, dx2, _, rfl, f2, rfl, o, ws, i1 + 1, 1, rfl, w2, sm, by decide, fun t i' et v H3 o3 w3 ⟨p, ev, np, ep⟩ => ?_, fun et H3 o3 => no (grp2 ey (oneT_end ew (take1_none et))) H3 (o12.trans o3)⟩
      subst ev
      obtain ⟨x, ex, rfl, rfl⟩ := take1_some et
      have ox := sm.wd (List.mem_of_getElem? ex)
      have o13 := o12.trans o3
      have o23 := o2.trans o3
      refine ⟨p, _, _, _, rfl, rfl, SqL.of ep, rfl, x, rfl, ox, fun cx H4 s4 => ?_, fun cx H4 s4 => no (grp2 ey (oneT_bad ew ex cx)) H4 (o13.same s4)⟩
      exact ⟨eD, vy, .str x, y, some x, i1, i1 + 2, rfl, ey, oneT_yes ew ex cx, o13.same s4, w3.same s4, (dy.otF w1 o23).sameF s4, ox.dp⟩
    · obtain ⟨⟨dx, l1, f1, g1⟩, le1⟩ := id wa
      refine ⟨_, rfl, o, dx, _, rfl, f1, rfl, o, ws, a, rfl, wa, sm, 46, upW ws a, congrArg V.str dot_str, rfl, _, rfl, ?_⟩
      rw [dot_in]
      cases ed : dotB (upW ws a) with
      | true =>
        have eb : byT ws a = ents colT ws 1 a := if_pos ed
        refine iteT ⟨_, rfl, o, ws, a, rfl, wa, sm, fun y i1 ey v H2 o2 w2 d => ?_, fun ey H2 o2 => no (grp1 (eb.trans ey)) H2 o2⟩
        exact ⟨rfl, v, y, i1, rfl, eb.trans ey, o2, w2, d⟩
      | false =>
        have eb : byT ws a = some ([], a) := if_neg (by rw [ed]; decide)
        refine iteF ⟨Nat.zero_le _, fun p ob hp ho => ?_⟩
        have d0 : FDs K H [] [] 0 := .nil
        exact ⟨rfl, .ref p, [], a, rfl, eb, wa.ot (same_upd hp), wa.same (same_upd hp), d0.tupF hp ho⟩
end
end Vm
/-! the program reads: a question -/
namespace Vm
open PySem PySem.Spec PyProof.Rows L2 TL
abbrev sReadQ : Stmt := top 30
/-- a text that is asked -/
structure TxQ (x : Str) : Prop where
  len : x.length ≤ 4000
  asc : ∀ c ∈ tl x, c < 128
  run : NumRun 250 (tl x)
theorem TxQ.wd {x y : Str} (h : TxQ x) (s : tl y <:+: tl x) : WdOk y := by
  refine ⟨?_, fun c m => h.asc c (s.subset m), fun n => ?_⟩
  · have a := infix_len s
    have b := h.len
    rw [len_tl] at b ⊢
    omega
  · have := (h.run.sub s) (tl y) List.infix_rfl (num_dm n)
    rw [len_tl]
    exact this
theorem TxQ.sm {x : Str} (h : TxQ x) : SmQ (Txt.split x " ") := by
  refine ⟨?_, fun y ⟨w, m, s⟩ => h.wd (s.trans (cut_infix sp_tl (by decide) w m))⟩
  rw [cut_count sp_tl (by decide)]
  have a := List.count_le_length (a := 32) (l := tl x)
  have b := h.len
  rw [len_tl] at b
  omega
def AskOk (t : Tr) : Prop := ∀ x, t = .str x → TxQ x
def spReadQ (K : PySem.W.Frag) (CS CU CF CG CE : Addr) : Sp := fun vs H Q E => ∃ (v : V) (t : Tr) (n : Nat) (bs : List Addr), vs = [v] ∧ Dt K H v t n bs ∧ AskOk t ∧ rdr CE (qnOf t) H (fun q v H' => QAt K CS CU CF CG H' v q) Q E
section
variable {P : Program} {w : World} {K : PySem.W.Frag} {mg : Str → Option Value} {base : Heap} {C CS CU CF CG CE fWI fE fU fT fP fX fI fBd fKp fGr fEn : Addr}
abbrev nmRQ : List Str := ["text", "words", "uses", "where", "without", "question"]
theorem scReadQ : FnScope nmRQ ["text"] (defScope sReadQ) := ⟨rfl, rfl, rfl, by decide +kernel, rfl, by decide +kernel, by decide +kernel⟩
theorem ok_readq {f : Addr} {fd fdW fdE fdP fdB fdK fdG fdN : FuncData} (F : Fun K "read_question" "read_question" sReadQ f fd) (N : TxtN K mg) (T : TxtWd K mg C fE fU fT fP fX fI) (Z : TxtX K mg CE)
    (MW : Mk K C fWI) (GW : FnOk P w K mg base CX0 1 fWI fdW ["self", "words"] (spWInit C)) (bW : Binds K fdW ["self", "words"] [])
    (GE : FnOk P w K mg base CX0 1 fE fdE ["self"] (spEnded C)) (bE : Binds K fdE ["self"] [])
    (GP : FnOk P w K mg base CX0 3 fP fdP ["self", "word"] (spPasses C)) (bP : Binds K fdP ["self", "word"] [])
    (cB : Calls K mg "_read_body" fBd) (GB : FnOk P w K mg base (L2.CX P w) 6 fBd fdB ["words"] (spBody K C CE)) (bB : Binds K fdB ["words"] [])
    (cK : Calls K mg "_read_kept" fKp) (GK : FnOk P w K mg base (L2.CX P w) 5 fKp fdK ["words", "uses", "where", "without"] (spKept K C CS CE)) (bK : Binds K fdK ["words", "uses", "where", "without"] [])
    (cG : Calls K mg "_read_groups" fGr) (GG : FnOk P w K mg base (L2.CX P w) 5 fGr fdG ["words", "uses", "where", "without"] (spGroups K C CS CU CF CG CE)) (bG : Binds K fdG ["words", "uses", "where", "without"] [])
    (cN : Calls K mg "_read_end" fEn) (GN : FnOk P w K mg base (L2.CX P w) 7 fEn fdN ["words", "select"] (spEnd9 K C CS CU CF CG CE)) (bN : Binds K fdN ["words", "select"] []) :
    FnOk P w K mg base (L2.CX P w) 8 f fd ["text"] (spReadQ K CS CU CF CG CE) := by
  refine F.okX scReadQ (fun vs H Q E h => ?_) (fun cdv A outer s H vs Q E hr h => ?_)
  · obtain ⟨v, t, n, bs, rfl, _⟩ := h
    rfl
  · obtain ⟨v, t, n, bs, rfl, d, ok, yes, no⟩ := h
    have tk := takes_of (X := cxOf (L2.CX P w) P w K mg base nmRQ "read_question" (defScope sReadQ) f cdv A outer s H E) (E := E) rfl rfl rfl rfl
    have hr1 : Room 1 _ := hr.mono (by decide)
    have hr2 : Room 2 _ := hr.mono (by decide)
    have hr3 : Room 3 _ := hr.mono (by decide)
    have hr5 : Room 5 _ := hr.mono (by decide)
    have hr6 : Room 6 _ := hr.mono (by decide)
    have big : sizeLine > 100000 := by decide
    let G1 : TS := fun D σ H1 => D.rt = Q ∧ ∃ (o : Addr) (x : Str) (v2 v3 v4 vq : V) (q : Qn) (e : Nat), σ = [some v, some (.ref o), some v2, some v3, some v4, some vq] ∧ t = .str x ∧ rawT (Txt.split x " ") = some (q, e) ∧ Same H H1 ∧ WAt C o H1 (Txt.split x " ") e ∧ SmQ (Txt.split x " ") ∧ QAt K CS CU CF CG H1 vq q
    refine ⟨_, pss_cons (ps_if (pt_not (pt_truth (pe_callB call_isi (by rfl) N.isi (by decide +kernel) (pa_cons (pv 0) (pa_cons (pe_bltn (v := .ty "str") (by rfl) N.str (by decide +kernel) rfl) pa_nil))) (fun _ => rfl))) (pss_one (ps_raise rfl (takes_of rfl rfl rfl rfl) (pmk_ret rfl (pe_xbare PySem.F.excBase_ValueError Z.x Z.g Z.k rfl)))) pss_nil)
      (pss_cons (ps_set (i := 1) scReadQ.nd rfl (Or.inl rfl) (pe_make MW GW hr2 (by rfl) T.gC bW .nil pass0 (pa_cons (pe_split (pv 0) pe_str) pa_nil)))
      (pss_cons (ps_asg (pe_callS (E := fun _ => E) GB hr6 rfl cB.g cB.k bB (fun σ => passAt tk σ) (pa_cons (pv 1) pa_nil)) (pg_tup rfl (pgs_cons (pg_name (i := 2) scReadQ.nd rfl (Or.inl rfl)) (pgs_cons (pg_name (i := 3) scReadQ.nd rfl (Or.inl rfl)) (pgs_cons (pg_name (i := 4) scReadQ.nd rfl (Or.inl rfl)) pgs_nil)))))
      (pss_cons (ps_if (pt_val (pe_meth (pv 1) T.cl T.mP GP hr3 bP .nil pass0 (pa_cons pe_str pa_nil)))
        (pss_one (ps_set (i := 5) scReadQ.nd rfl (Or.inl rfl) (pe_callS (E := fun _ => E) GG hr5 rfl cG.g cG.k bG (fun σ => passAt tk σ) (pa_cons (pv 1) (pa_cons (pv 2) (pa_cons (pv 3) (pa_cons (pv 4) pa_nil)))))))
        (pss_one (ps_set (i := 5) scReadQ.nd rfl (Or.inl rfl) (pe_callS (E := fun _ => E) GN hr rfl cN.g cN.k bN (fun σ => passAt tk σ) (pa_cons (pv 1) (pa_cons (pe_callS (E := fun _ => E) GK hr5 rfl cK.g cK.k bK (fun σ => passAt tk σ) (pa_cons (pv 1) (pa_cons (pv 2) (pa_cons (pv 3) (pa_cons (pv 4) pa_nil))))) pa_nil))))))
      (pss_imp (G := G1) (pss_cons (ps_if (pt_not (pt_val (pe_meth0 (pv 1) T.cl T.mE GE hr1 bE .nil pass0))) (pss_one (ps_raise rfl (takes_of rfl rfl rfl rfl) (pmk_ret rfl (pe_xbare PySem.F.excBase_ValueError Z.x Z.g Z.k rfl)))) pss_nil)
      (pss_one (ps_ret (pv 5)))) (fun D σ H1 g1 => ?_))))), ?_⟩
    · obtain ⟨eD, o, x, v2, v3, v4, vq, q, e, rfl, et, er, s1, w1, sm, qa⟩ := g1
      have eq : qnOf t = endQ (Txt.split x " ") (some (q, e)) := by
        rw [et]
        show qnT (Txt.split x " ") = _
        rw [qn_raw, er]
      obtain ⟨⟨dx, l, f1, g1⟩, le1⟩ := id w1
      refine ⟨_, rfl, o, dx, _, rfl, f1, rfl, o, _, e, rfl, w1, sm, _, rfl, ?_⟩
      by_cases z : e = (Txt.split x " ").length
      · rw [decide_eq_true z]
        refine iteF ⟨_, rfl, ?_⟩
        show D.rt _ _
        rw [eD]
        exact yes q (by rw [eq]; exact if_pos z) vq H1 s1 qa
      · rw [decide_eq_false z]
        exact iteT (bad_of Z.b Z.t (fun a na => s1.free na) (no (by rw [eq]; exact if_neg z) H1 s1))
    · refine ⟨_, rfl, v, _, _, _, isStr t, rfl, .ty _, d.ty, kit_str t, isStr t, rfl, ?_⟩
      cases d with
      | @str n x h hz =>
        refine iteF ?_
        have tx := ok x rfl
        have sm := tx.sm
        have lx := tx.len
        have er : qnOf (.str x) = endQ (Txt.split x " ") (rawT (Txt.split x " ")) := qn_raw _
        refine ⟨_, rfl, ⟨_, rfl⟩, _, _, rfl, rfl, by decide +kernel, by omega, fun p hp => ?_⟩
        obtain ⟨ws, hws⟩ : ∃ ws, ws = Txt.split x " " := ⟨_, rfl⟩
        rw [← hws] at er sm ⊢
        have s1 := same_upd (o := .lst (ws.map V.str)) hp
        have e1 : upd H p (.lst (ws.map V.str)) p = some (.lst (ws.map V.str)) := upd_same
        generalize upd H p (.lst (ws.map V.str)) = H1 at s1 e1 ⊢
        refine fun o xd no' nxd ne => ?_
        refine ⟨o, xd, p, rfl, upd_same, fun H2 kp e2 => ⟨rfl, ?_⟩⟩
        have s2 : Same H1 H2 := fun b u e => kp b u (ne_of_none e no') (by
          rw [upd_ne (ne_of_none e no'), upd_ne (ne_of_none e nxd)]
          exact e)
        have s02 := s1.trans s2
        have w2 : WAt C o H2 ws 0 := ⟨⟨xd, p, e2, s2 _ _ e1⟩, Nat.zero_le _⟩
        have fo : H o = none := s1.free no'
        have sm_of : ∀ {H'}, Ot o H2 H' → Same H H' := fun {H'} k b u e => k.keep b u (ne_of_none e fo) (s02 b u e)
        refine ⟨_, rfl, o, ws, 0, rfl, w2, sm, fun b a eb vb H3 o3 w3 ab => ?_, fun eb H3 o3 => no (by rw [er]; unfold rawT; rw [eb]; rfl) H3 (sm_of o3)⟩
        obtain ⟨q, v1, v2, v3, rfl, hq, d1, d2, d3⟩ := ab
        refine ⟨q, _, rfl, hq, rfl, _, _, rfl, _, _, rfl, _, _, rfl, rfl, ?_⟩
        obtain ⟨⟨dx, l, f1, g1⟩, le1⟩ := id w3
        refine ⟨_, rfl, o, dx, _, rfl, f1, rfl, o, ws, a, _, rfl, w3, sm, by decide +kernel, fun eg H4 o4 w4 => ⟨_, rfl, iteT ?_⟩, fun eg => ⟨_, rfl, iteF ?_⟩⟩
        · have o34 := o3.trans o4
          have rr : rawT ws = match grpT ws (a + 1) with
              | none => none
              | some (p, e) => some (.grp b p.1 p.2.1 p.2.2.1 p.2.2.2, e) := by
            unfold rawT
            rw [eb]
            dsimp only
            rw [if_pos eg] <;> rfl
          refine ⟨_, rfl, _, rfl, _, rfl, _, rfl, o, ws, a + 1, b, v1, v2, v3, rfl, w4, sm, d1.otF w3 o4, d2.otF w3 o4, d3.otF w3 o4, fun g e ge vg H5 o5 w5 qa => ?_, fun ge H5 o5 => no (by rw [er, rr, ge]; rfl) H5 (sm_of (o34.trans o5))⟩
          exact ⟨rfl, o, x, v1, v2, v3, vg, _, e, rfl, rfl, by rw [← hws, rr, ge], sm_of (o34.trans o5), by rw [← hws]; exact w5, by rw [← hws]; exact sm, qa⟩
        · have rr : rawT ws = match keepT ws a with
              | none => none
              | some (k, c) => endT b k ws c := by
            unfold rawT
            rw [eb]
            dsimp only
            rw [if_neg eg] <;> rfl
          refine ⟨_, rfl, _, rfl, _, rfl, _, rfl, _, rfl, o, ws, a, b, v1, v2, v3, rfl, w3, sm, d1, d2, d3, fun k c ke vk H5 o5 w5 ⟨sk, nk⟩ => ?_, fun ke H5 o5 => no (by rw [er, rr, ke]; rfl) H5 (sm_of (o3.trans o5))⟩
          have rr2 : rawT ws = endT b k ws c := by rw [rr, ke]
          refine ⟨o, ws, c, b, k, vk, rfl, w5, sm, sk, nk, fun g e ge vg H6 o6 w6 qa => ?_, fun ge H6 o6 => no (by rw [er, rr2, ge]; rfl) H6 (sm_of ((o3.trans o5).trans o6))⟩
          exact ⟨rfl, o, x, v1, v2, v3, vg, _, e, rfl, rfl, by rw [← hws, rr2, ge], sm_of ((o3.trans o5).trans o6), by rw [← hws]; exact w6, by rw [← hws]; exact sm, qa⟩
      | _ => exact iteT (bad_of Z.b Z.t (fun a na => na) (no rfl H (Same.refl H)))
end
end Vm
/-! the law reads: columns, entries -/
namespace Vm
open PySem PySem.Spec PyProof.Rows L2 TL
abbrev sLIsCol : Stmt := top 55
abbrev sLUse : Stmt := top 57
abbrev sLCond : Stmt := top 58
abbrev sLCol : Stmt := top 59
abbrev sLBnd : Stmt := top 60
def opR : Option Tr → Tr
  | none => .non
  | some t => t
def useφ (t : List Str) : Option Tr := (useT t).map useR
def condφ (t : List Str) : Option Tr := (condT t).map cndR
def colφ (t : List Str) : Option Tr := (colT t).map Tr.str
def bndφ (t : List Str) : Option Tr := (bndT t).map bndR
/-- the law reads an entry of n words -/
def spEL (K : PySem.W.Frag) (φ : List Str → Option Tr) (n : Nat) : Sp := fun vs H Q _ => ∃ (l : Addr) (t : List Str), vs = [.ref l] ∧ SqL K H l (t.map V.str) ∧ t.length = n ∧ (∀ x ∈ t, WdOk x) ∧ ∀ v H', Same H H' → FD K H' v (opR (φ t)) 1 → Q v H'
theorem none_off {α : Type} (p : α → Bool) (xs : List α) : (xs.filter fun x => !p x).isEmpty = xs.all p := by
  induction xs with
  | nil => rfl
  | cons a r ih =>
    rw [List.filter_cons, List.all_cons]
    cases p a with
    | true => exact ih
    | false => rfl
section
variable {P : Program} {w : World} {K : PySem.W.Frag} {mg : Str → Option Value} {base : Heap} {fNm fCol fIn : Addr}
theorem scLIsCol : FnScope ["_law_it", "_law_part"] ["_law_it"] (defScope sLIsCol) := ⟨rfl, rfl, rfl, by decide +kernel, rfl, by decide +kernel, by decide +kernel⟩
theorem ok_liscol {f : Addr} {fd fdN : FuncData} (F : Fun K "_law_is_column" "_law_is_column" sLIsCol f fd) (T : TxtN K mg) (cN : Calls K mg "_law_is_name" fNm) (GN : FnOk P w K mg base CX0 1 fNm fdN ["_law_it"] spLName) (bN : Binds K fdN ["_law_it"] []) :
    FnOk P w K mg base CX0 2 f fd ["_law_it"] spCol := by
  refine F.ok scLIsCol (fun vs H Q E h => ?_) (fun cdv A outer s H vs Q E hr h => ?_)
  · obtain ⟨x, rfl, _⟩ := h
    rfl
  · obtain ⟨x, rfl, ox, k⟩ := h
    have lx := ox.len
    have big : sizeLine > 100000 := by decide
    have hu : (A.deeper (PyProof.Rows.envOfC "_law_is_column" (defScope sLIsCol) s.heap.objs.size f cdv)).units < cLine := by
      have := hr.units
      omega
    refine ⟨_, pss_one (ps_ret (pe_and (pe_cmpR op_eq (pe_callB call_len_seq (by rfl) T.len (by decide +kernel) (pa_cons (pe_split (pv 0) pe_str) pa_nil)) pe_int (nomark _))
        (pe_one (pe_cmpR (op_eqNil hu) (pe_lc (own := [("_law_part", 1)]) (g := gName 1) (tt := tNot (tB (tCall spLName [] E0 (tCons (tVar 1) tNil)))) (te := tVar 1) rfl scLIsCol.nd (pi_list (pe_split (pv 0) pe_str))
          (blkOk_by (N := ["_law_it", "_law_part"]) (sc := defScope sLIsCol) (by decide +kernel)) (fun _ _ _ _ _ => pg_name (i := 1) scLIsCol.nd rfl (Or.inl rfl))
          (fun _ _ _ _ _ => by exact (pts_one (pt_not (pt_val (pe_call GN hr rfl cN.g cN.k bN .nil pass0 (pa_cons (pv 1) pa_nil)))))) (fun _ _ _ _ _ => by exact (pv 1))) (pe_lst pa_nil) (nomark _))))), ?_⟩
    have few := dot_few x
    have part : ∀ q ∈ Txt.split x ".", q.length ≤ x.length := fun q m => dot_part m
    have ck : colB x = (decide ((Txt.split x ".").length = 2) && (Txt.split x ".").all nmS) := rfl
    refine ⟨_, rfl, ⟨_, rfl⟩, _, _, rfl, rfl, by decide +kernel, by omega, fun p hp => ?_⟩
    obtain ⟨ps, hps⟩ : ∃ ps, ps = Txt.split x "." := ⟨_, rfl⟩
    rw [← hps] at few part ck ⊢
    have s1 := same_upd (o := .lst (ps.map V.str)) hp
    have e1 : upd H p (.lst (ps.map V.str)) p = some (.lst (ps.map V.str)) := upd_same
    refine ⟨p, _, rfl, .inl (SqL.of e1), rfl, _, rfl, ?_⟩
    generalize upd H p (.lst (ps.map V.str)) = H1 at s1 e1 ⊢
    rw [List.length_map]
    refine ite_ (fun e2 => ?_) (fun e2 => ?_)
    · have l2 : ps.length = 2 := by
        have := V.int.inj e2
        omega
      refine ⟨_, rfl, ⟨_, rfl⟩, _, _, rfl, rfl, by decide +kernel, by omega, fun p2 hp2 => ?_⟩
      rw [← hps]
      have s2 := same_upd (o := .lst (ps.map V.str)) hp2
      have e22 : upd H1 p2 (.lst (ps.map V.str)) p2 = some (.lst (ps.map V.str)) := upd_same
      generalize upd H1 p2 (.lst (ps.map V.str)) = H2 at s2 e22 ⊢
      refine ⟨p2, rfl, ⟨_, SqL.of e22⟩, fun D hD => ?_⟩
      refine lc_list (K := K) (a := p2) (xs := ps.map V.str) (fun i H' => Same H2 H' ∧ H' D = some (.lst (((ps.take i).filter fun x => !nmS x).map V.str))) ⟨same_upd hD, upd_same⟩ (fun i H' _ z => SqL.of (z.1 _ _ e22)) ?_ ?_
      · rintro i y H3 hi ⟨s3, e3⟩
        obtain ⟨z, qc, rfl⟩ := map_at' hi
        have lz := part z (List.mem_of_getElem? qc)
        have step : ((ps.take (i + 1)).filter fun x => !nmS x) = ((ps.take i).filter fun x => !nmS x) ++ ([z].filter fun x => !nmS x) := by
          rw [List.take_add_one, qc]
          exact List.filter_append _ _
        refine ⟨rfl, _, rfl, z, rfl, by omega, fun H4 s4 => ⟨_, rfl, ?_⟩⟩
        cases ez : nmS z with
        | true =>
          refine iteF ⟨s3.trans s4, ?_⟩
          rw [step]
          have : ([z].filter fun x => !nmS x) = [] := by simp [ez]
          rw [this, List.append_nil]
          exact s4 _ _ e3
        | false =>
          refine iteT ⟨_, rfl, _, s4 _ _ e3, ?_, fun b o e => ?_, ?_⟩
          · rw [List.length_map]
            have a := List.length_filter_le (fun x => !nmS x) (ps.take i)
            have b := List.length_take_le i ps
            have c : (ps.take i).length ≤ ps.length := by
              rw [List.length_take]
              omega
            omega
          · rw [upd_ne (ne_of_none e hD)]
            exact s4 _ _ (s3 _ _ e)
          · rw [upd_same, step]
            have : ([z].filter fun x => !nmS x) = [z] := by simp [ez]
            rw [this, List.map_append]
            rfl
      · rintro H3 ⟨s3, e3⟩
        rw [List.length_map, List.take_length] at e3
        refine ⟨Nat.zero_le _, fun q hq => ?_⟩
        have s4 := same_upd (o := .lst []) hq
        refine ⟨D, q, _, rfl, rfl, SqL.of (s4 _ _ e3), SqL.of upd_same, ?_⟩
        have al : (((ps.filter fun x => !nmS x).map V.str).isEmpty) = ps.all nmS := by
          rw [List.isEmpty_map]
          exact none_off nmS ps
        rw [al]
        have z := k _ (s1.trans (s2.trans (s3.trans s4)))
        rw [ck, decide_eq_true l2, Bool.true_and] at z
        exact z
    · have q := k H1 s1
      rw [ck, decide_eq_false (fun z => e2 (by rw [z]; rfl)), Bool.false_and] at q
      exact q
theorem scLUse : FnScope ["_law_entry_here", "_law_is_right"] ["_law_entry_here"] (defScope sLUse) := ⟨rfl, rfl, rfl, by decide +kernel, rfl, by decide +kernel, by decide +kernel⟩
theorem ok_luse {f : Addr} {fd fdN : FuncData} (F : Fun K "_law_use_in" "_law_use_in" sLUse f fd) (cN : Calls K mg "_law_is_name" fNm) (GN : FnOk P w K mg base CX0 1 fNm fdN ["_law_it"] spLName) (bN : Binds K fdN ["_law_it"] []) :
    FnOk P w K mg base CX0 2 f fd ["_law_entry_here"] (spEL K useφ 3) := by
  refine F.ok scLUse (fun vs H Q E h => ?_) (fun cdv A outer s H vs Q E hr h => ?_)
  · obtain ⟨l, t, rfl, _⟩ := h
    rfl
  · obtain ⟨l, t, rfl, hl, l3, ok, k⟩ := h
    obtain ⟨a, b, c, rfl⟩ := three_of l3
    have oa := ok a (by simp)
    have oc := ok c (by simp)
    have la := oa.len
    have lc := oc.len
    have big : sizeLine > 100000 := by decide
    have hl3 : SqL K H l [.str a, .str b, .str c] := hl
    have eu : useφ [a, b, c] = (if b = "as" ∧ nmS a = true ∧ nmS c = true then some (c, a) else none).map useR := rfl
    let G1 : TS := fun D σ H1 => D.rt = Q ∧ ∃ r : Bool, σ = [some (.ref l), some (.bl r)] ∧ Same H H1 ∧ (r = true ↔ (b = "as" ∧ nmS a = true ∧ nmS c = true))
    refine ⟨_, pss_cons (ps_set (i := 1) scLUse.nd rfl (Or.inl rfl) (pe_and (pe_cmpR op_eq (pe_ix ix_list (pv 0) pe_int (fun _ _ => rfl)) pe_str (nomark _))
        (pe_and (pe_call GN hr rfl cN.g cN.k bN .nil pass0 (pa_cons (pe_ix ix_list (pv 0) pe_int (fun _ _ => rfl)) pa_nil)) (pe_one (pe_call GN hr rfl cN.g cN.k bN .nil pass0 (pa_cons (pe_ix ix_list (pv 0) pe_int (fun _ _ => rfl)) pa_nil))))))
      (pss_imp (G := G1) (pss_one (ps_ret (pe_ifExp (pt_val (pv 1)) (pe_tupF (pa_cons (pe_ix ix_list (pv 0) pe_int (fun _ _ => rfl)) (pa_cons (pe_ix ix_list (pv 0) pe_int (fun _ _ => rfl)) pa_nil))) pe_non))) (fun D σ H1 g1 => ?_)), ?_⟩
    · obtain ⟨eD, r, rfl, s1, ir⟩ := g1
      have h1 := s1.seq hl3
      refine ⟨_, rfl, r, rfl, ?_⟩
      cases r with
      | true =>
        refine iteT ⟨_, rfl, l, _, _, _, rfl, rfl, h1, rfl, ?_⟩
        refine ⟨_, rfl, l, _, _, _, rfl, rfl, h1, rfl, ?_⟩
        refine ⟨by show 2 ≤ sizeLine; omega, fun p o hp ho => ?_⟩
        have d : FDs K H1 [.str c, .str a] [.str c, .str a] 0 := .cons oc.dp (.cons oa.dp .nil)
        show D.rt _ _
        rw [eD]
        refine k _ _ (s1.trans (same_upd hp)) ?_
        rw [eu, if_pos (ir.mp rfl)]
        exact d.tupF hp ho
      | false =>
        refine iteF ?_
        show D.rt _ _
        rw [eD]
        refine k _ _ s1 ?_
        rw [eu, if_neg fun z => absurd (ir.mpr z) (by decide)]
        exact .non
    · refine ⟨_, rfl, l, _, _, _, rfl, rfl, hl3, rfl, rfl, _, rfl, ?_⟩
      refine ite_ (fun eb => ?_) (fun eb => ?_)
      · have eb := V.str.inj eb
        refine ⟨_, rfl, l, _, _, _, rfl, rfl, hl3, rfl, a, rfl, by omega, fun H1 s1 => ⟨_, rfl, ?_⟩⟩
        cases ea : nmS a with
        | false => exact iteF ⟨rfl, false, rfl, s1, ⟨(fun z => by cases z), fun ⟨_, z, _⟩ => by rw [ea] at z; cases z⟩⟩
        | true =>
          refine iteT ⟨_, rfl, l, _, _, _, rfl, rfl, s1.seq hl3, rfl, c, rfl, by omega, fun H2 s2 => ?_⟩
          exact ⟨rfl, nmS c, rfl, s1.trans s2, ⟨fun z => ⟨eb, ea, z⟩, fun z => z.2.2⟩⟩
      · exact ⟨rfl, false, rfl, Same.refl H, ⟨(fun z => by cases z), fun z => absurd (by rw [z.1]) eb⟩⟩
theorem scLCol : FnScope ["_law_entry_here"] ["_law_entry_here"] (defScope sLCol) := ⟨rfl, rfl, rfl, by decide +kernel, rfl, by decide +kernel, by decide +kernel⟩
theorem ok_lcol {f : Addr} {fd fdC : FuncData} (F : Fun K "_law_column_in" "_law_column_in" sLCol f fd) (cC : Calls K mg "_law_is_column" fCol) (GC : FnOk P w K mg base CX0 2 fCol fdC ["_law_it"] spCol) (bC : Binds K fdC ["_law_it"] []) :
    FnOk P w K mg base CX0 3 f fd ["_law_entry_here"] (spEL K colφ 1) := by
  refine F.ok scLCol (fun vs H Q E h => ?_) (fun cdv A outer s H vs Q E hr h => ?_)
  · obtain ⟨l, t, rfl, _⟩ := h
    rfl
  · obtain ⟨l, t, rfl, hl, l3, ok, k⟩ := h
    obtain ⟨a, rfl⟩ := one_of l3
    have oa := ok a (by simp)
    have hl1 : SqL K H l [.str a] := hl
    have eu : colφ [a] = (if colB a = true then some a else none).map Tr.str := rfl
    refine ⟨_, pss_one (ps_ret (pe_ifExp (pt_val (pe_call GC hr rfl cC.g cC.k bC .nil pass0 (pa_cons (pe_ix ix_list (pv 0) pe_int (fun _ _ => rfl)) pa_nil))) (pe_ix ix_list (pv 0) pe_int (fun _ _ => rfl)) pe_non)), ?_⟩
    refine ⟨_, rfl, l, _, _, _, rfl, rfl, hl1, rfl, a, rfl, oa, fun H1 s1 => ⟨_, rfl, ?_⟩⟩
    cases e : colB a with
    | true =>
      refine iteT ⟨_, rfl, l, _, _, _, rfl, rfl, s1.seq hl1, rfl, ?_⟩
      refine k _ _ s1 ?_
      rw [eu, if_pos e]
      exact oa.dp
    | false =>
      refine iteF (k _ _ s1 ?_)
      rw [eu, if_neg (by rw [e]; decide)]
      exact .non
end
end Vm
/-! the law reads: conditions, bounds -/
namespace Vm
open PySem PySem.Spec PyProof.Rows L2 TL
/-- the words of a written tuple -/
def WrT (K : PySem.W.Frag) (H : Hp) (a : Addr) (xs : List Str) : Prop := SqT K H a (xs.map V.str)
theorem intV_non {x : Str} : decide (intV x = .non) = !numW x := by
  unfold intV
  cases numW x <;> rfl
section
variable {P : Program} {w : World} {K : PySem.W.Frag} {mg : Str → Option Value} {base : Heap} {fNm fCol fIn : Addr}
theorem scLCond : FnScope ["_law_entry_here", "_law_read_here"] ["_law_entry_here"] (defScope sLCond) := ⟨rfl, rfl, rfl, by decide +kernel, rfl, by decide +kernel, by decide +kernel⟩
theorem ok_lcond {f : Addr} {fd fdN fdC fdI : FuncData} (F : Fun K "_law_condition_in" "_law_condition_in" sLCond f fd) (N : TxtN K mg)
    (cN : Calls K mg "_law_is_name" fNm) (GN : FnOk P w K mg base CX0 1 fNm fdN ["_law_it"] spLName) (bN : Binds K fdN ["_law_it"] [])
    (cC : Calls K mg "_law_is_column" fCol) (GC : FnOk P w K mg base CX0 2 fCol fdC ["_law_it"] spCol) (bC : Binds K fdC ["_law_it"] [])
    (cI : Calls K mg "_law_integer_in" fIn) (GI : FnOk P w K mg base CX0 1 fIn fdI ["_law_word"] spLInt) (bI : Binds K fdI ["_law_word"] []) :
    FnOk P w K mg base CX0 3 f fd ["_law_entry_here"] (spEL K condφ 3) := by
  refine F.ok scLCond (fun vs H Q E h => ?_) (fun cdv A outer s H vs Q E hr h => ?_)
  · obtain ⟨l, t, rfl, _⟩ := h
    rfl
  · obtain ⟨l, t, rfl, hl, l3, ok, k⟩ := h
    obtain ⟨a, b, c, rfl⟩ := three_of l3
    have oa := ok a (by simp)
    have ob := ok b (by simp)
    have oc := ok c (by simp)
    have lc := oc.len
    have hr1 : Room 1 _ := hr.mono (by decide)
    have big : sizeLine > 100000 := by decide
    have hl3 : ∀ {H'}, Same H H' → SqL K H' l [.str a, .str b, .str c] := fun s' => s'.seq hl
    have eu : condφ [a, b, c] = (if colB a = true ∧ b ∈ ops4 then (opdT c).map fun y => (a, b, y) else none).map cndR := rfl
    refine ⟨_, pss_cons (ps_if (PW.pt (pw_or (pt_not (pt_val (pe_call GC hr rfl cC.g cC.k bC .nil pass0 (pa_cons (pe_ix ix_list (pv 0) pe_int (fun _ _ => rfl)) pa_nil))))
          (pw_or1 (pt_cmpR op_notIn_seq (pe_ix ix_list (pv 0) pe_int (fun _ _ => rfl)) (pe_tupF (pa_cons pe_str (pa_cons pe_str (pa_cons pe_str (pa_cons pe_str pa_nil))))) (by rfl))))) (pss_one (ps_ret pe_non)) pss_nil)
      (pss_cons (ps_if (PW.pt (pw_or (pt_val (pe_call GC hr rfl cC.g cC.k bC .nil pass0 (pa_cons (pe_ix ix_list (pv 0) pe_int (fun _ _ => rfl)) pa_nil))) (pw_or1 (pt_val (pe_call GN hr1 rfl cN.g cN.k bN .nil pass0 (pa_cons (pe_ix ix_list (pv 0) pe_int (fun _ _ => rfl)) pa_nil))))))
        (pss_one (ps_ret (pe_callTy call_tupleF (by rfl) N.tuple (by decide +kernel) (pa_cons (pv 0) pa_nil)))) pss_nil)
      (pss_cons (ps_set (i := 1) scLCond.nd rfl (Or.inl rfl) (pe_call GI hr1 rfl cI.g cI.k bI .nil pass0 (pa_cons (pe_ix ix_list (pv 0) pe_int (fun _ _ => rfl)) pa_nil)))
      (pss_one (ps_ret (pe_ifExp (pt_cmpR op_isN (pv 1) pe_non (by rfl)) pe_non (pe_tupF (pa_cons (pe_ix ix_list (pv 0) pe_int (fun _ _ => rfl)) (pa_cons (pe_ix ix_list (pv 0) pe_int (fun _ _ => rfl)) (pa_cons (pv 1) pa_nil))))))))), ?_⟩
    have nope : ∀ H', Same H H' → condφ [a, b, c] = none → Q .non H' := fun H' s' e => k _ _ s' (by rw [e]; exact .non)
    refine ⟨_, rfl, l, _, _, _, rfl, rfl, hl3 (Same.refl H), rfl, a, rfl, oa, fun H1 s1 => ⟨_, rfl, ?_⟩⟩
    cases ea : colB a with
    | false => exact iteT (iteT (nope H1 s1 (by rw [eu, if_neg (by rintro ⟨z, _⟩; rw [ea] at z; cases z)]; rfl)))
    | true =>
      refine iteF ⟨_, rfl, l, _, _, _, rfl, rfl, hl3 s1, rfl, ?_⟩
      refine ⟨by show 4 ≤ sizeLine; omega, fun p o hp ho => ?_⟩
      have s2 := s1.trans (same_upd (o := .frz o (.tup (ops4.map V.str))) hp)
      refine ⟨p, ops4.map V.str, rfl, .inr (.inl (.inr ⟨o, upd_same⟩)), rfl, flat_strs _, _, rfl, ?_⟩
      show if (!inV (.str b) (ops4.map V.str)) = true then _ else _
      have s2 : Same H (upd H1 p (.frz o (.tup [V.str "=", .str "!=", .str "<=", .str ">="]))) := s2
      generalize upd H1 p (.frz o (.tup [V.str "=", .str "!=", .str "<=", .str ">="])) = H2 at s2 ⊢
      rw [inV_mem]
      by_cases mb : b ∈ ops4
      · rw [decide_eq_true mb]
        refine iteF ?_
        have eu2 : condφ [a, b, c] = ((opdT c).map fun y => (a, b, y)).map cndR := by rw [eu, if_pos ⟨ea, mb⟩]
        have same : opdT c = some (.s c) → ∀ H', Same H H' → ∀ Qx : VK, (∀ v H'', Same H H'' → FD K H'' v (opR (condφ [a, b, c])) 1 → Qx v H'') → ∃ a_1 xs, V.ref l = V.ref a_1 ∧ SqL K H' a_1 xs ∧ ∀ (p : Addr) (o : Obj), H' p = none → o.dict = none → Qx (.ref p) (upd H' p (.frz o (.tup xs))) := fun eo H' s' Qx q => by
          refine ⟨l, _, rfl, hl3 s', fun p o hp ho => q _ _ (s'.trans (same_upd hp)) ?_⟩
          rw [eu2, eo]
          have d : FDs K H' [.str a, .str b, .str c] [.str a, .str b, .str c] 0 := .cons oa.dp (.cons ob.dp (.cons oc.dp .nil))
          exact d.tupF hp ho
        refine ⟨_, rfl, l, _, _, _, rfl, rfl, hl3 s2, rfl, c, rfl, oc, fun H3 s3 => ⟨_, rfl, ?_⟩⟩
        have s03 := s2.trans s3
        cases ec : colB c with
        | true =>
          have eo : opdT c = some (.s c) := by
            unfold opdT
            rw [ec, Bool.or_true]
            rfl
          refine iteT (iteT ⟨_, rfl, ?_⟩)
          obtain ⟨p, xs, e, hq, nw⟩ := same eo H3 s03 Q k
          exact ⟨p, xs, by rw [e], hq, nw⟩
        | false =>
          refine iteF ⟨_, rfl, l, _, _, _, rfl, rfl, hl3 s03, rfl, c, rfl, by omega, fun H4 s4 => ⟨_, rfl, ?_⟩⟩
          have s04 := s03.trans s4
          cases en : nmS c with
          | true =>
            have eo : opdT c = some (.s c) := by
              unfold opdT
              rw [en]
              rfl
            obtain ⟨p, xs, e, hq, nw⟩ := same eo H4 s04 Q k
            exact iteT ⟨_, rfl, p, xs, by rw [e], hq, nw⟩
          | false =>
            have eo : opdT c = if numW c = true then some (.n (intW c)) else none := by
              unfold opdT
              rw [en, ec]
              rfl
            refine iteF ⟨_, rfl, l, _, _, _, rfl, rfl, hl3 s04, rfl, c, rfl, by omega, oc.num, fun H5 s5 => ?_⟩
            have s05 := s04.trans s5
            refine ⟨_, rfl, rfl, _, rfl, ?_⟩
            rw [intV_non]
            cases ei : numW c with
            | false => exact iteT (nope H5 s05 (by rw [eu2, eo, if_neg (by rw [ei]; decide)]; rfl))
            | true =>
              have iv : intV c = .int (intW c) := if_pos ei
              rw [iv]
              refine iteF ⟨_, rfl, l, _, _, _, rfl, rfl, hl3 s05, rfl, ?_⟩
              refine ⟨_, rfl, l, _, _, _, rfl, rfl, hl3 s05, rfl, ?_⟩
              refine ⟨_, rfl, by show 3 ≤ sizeLine; omega, fun p o hp ho => k _ _ (s05.trans (same_upd hp)) ?_⟩
              have d : FDs K H5 [.str a, .str b, .int (intW c)] [.str a, .str b, .int (intW c)] 0 := .cons oa.dp (.cons ob.dp (.cons (int_dp oc ei) .nil))
              rw [eu2, eo, if_pos ei]
              exact d.tupF hp ho
      · rw [decide_eq_false mb]
        exact iteT (nope H2 s2 (by rw [eu, if_neg fun z => mb z.2]; rfl))
theorem scLBnd : FnScope ["_law_entry_here", "_law_read_here"] ["_law_entry_here"] (defScope sLBnd) := ⟨rfl, rfl, rfl, by decide +kernel, rfl, by decide +kernel, by decide +kernel⟩
theorem ok_lbnd {f : Addr} {fd fdI : FuncData} (F : Fun K "_law_bound_in" "_law_bound_in" sLBnd f fd)
    (cI : Calls K mg "_law_integer_in" fIn) (GI : FnOk P w K mg base CX0 1 fIn fdI ["_law_word"] spLInt) (bI : Binds K fdI ["_law_word"] []) :
    FnOk P w K mg base CX0 2 f fd ["_law_entry_here"] (spEL K bndφ 3) := by
  refine F.ok scLBnd (fun vs H Q E h => ?_) (fun cdv A outer s H vs Q E hr h => ?_)
  · obtain ⟨l, t, rfl, _⟩ := h
    rfl
  · obtain ⟨l, t, rfl, hl, l3, ok, k⟩ := h
    obtain ⟨a, b, c, rfl⟩ := three_of l3
    have oa := ok a (by simp)
    have ob := ok b (by simp)
    have oc := ok c (by simp)
    have lc := oc.len
    have big : sizeLine > 100000 := by decide
    have hl3 : ∀ {H'}, Same H H' → SqL K H' l [.str a, .str b, .str c] := fun s' => s'.seq hl
    have eu : bndφ [a, b, c] = (if a ∈ meas ∧ b ∈ ops2 ∧ numW c = true then some (a, b, intW c) else none).map bndR := rfl
    refine ⟨_, pss_cons (ps_set (i := 1) scLBnd.nd rfl (Or.inl rfl) (pe_call GI hr rfl cI.g cI.k bI .nil pass0 (pa_cons (pe_ix ix_list (pv 0) pe_int (fun _ _ => rfl)) pa_nil)))
      (pss_cons (ps_if (PW.pt (pw_or (pt_cmpR op_notIn_seq (pe_ix ix_list (pv 0) pe_int (fun _ _ => rfl)) (pe_tupF (pa_cons pe_str (pa_cons pe_str (pa_cons pe_str pa_nil)))) (by rfl))
          (pw_or (pt_cmpR op_notIn_seq (pe_ix ix_list (pv 0) pe_int (fun _ _ => rfl)) (pe_tupF (pa_cons pe_str (pa_cons pe_str pa_nil))) (by rfl)) (pw_or1 (pt_cmpR op_isN (pv 1) pe_non (by rfl)))))) (pss_one (ps_ret pe_non)) pss_nil)
      (pss_one (ps_ret (pe_tupF (pa_cons (pe_ix ix_list (pv 0) pe_int (fun _ _ => rfl)) (pa_cons (pe_ix ix_list (pv 0) pe_int (fun _ _ => rfl)) (pa_cons (pv 1) pa_nil))))))), ?_⟩
    have nope : ∀ H', Same H H' → bndφ [a, b, c] = none → Q .non H' := fun H' s' e => k _ _ s' (by rw [e]; exact .non)
    refine ⟨_, rfl, l, _, _, _, rfl, rfl, hl3 (Same.refl H), rfl, c, rfl, by omega, oc.num, fun H1 s1 => ?_⟩
    refine ⟨_, rfl, l, _, _, _, rfl, rfl, hl3 s1, rfl, ?_⟩
    refine ⟨by show 3 ≤ sizeLine; omega, fun p o hp ho => ?_⟩
    have s2 := s1.trans (same_upd (o := .frz o (.tup [V.str "count", .str "least", .str "greatest"])) hp)
    refine ⟨p, meas.map V.str, rfl, .inr (.inl (.inr ⟨o, upd_same⟩)), rfl, flat_strs _, _, rfl, ?_⟩
    show if (!inV (.str a) (meas.map V.str)) = true then _ else _
    rw [inV_mem]
    generalize upd H1 p (.frz o (.tup [V.str "count", .str "least", .str "greatest"])) = H2 at s2 ⊢
    by_cases ma : a ∈ meas
    · rw [decide_eq_true ma]
      refine iteF ⟨_, rfl, l, _, _, _, rfl, rfl, hl3 s2, rfl, ?_⟩
      refine ⟨by show 2 ≤ sizeLine; omega, fun p o hp ho => ?_⟩
      have s3 := s2.trans (same_upd (o := .frz o (.tup [V.str "<=", .str ">="])) hp)
      refine ⟨p, ops2.map V.str, rfl, .inr (.inl (.inr ⟨o, upd_same⟩)), rfl, flat_strs _, _, rfl, ?_⟩
      show if (!inV (.str b) (ops2.map V.str)) = true then _ else _
      rw [inV_mem]
      generalize upd H2 p (.frz o (.tup [V.str "<=", .str ">="])) = H3 at s3 ⊢
      by_cases mb : b ∈ ops2
      · rw [decide_eq_true mb]
        refine iteF ⟨_, rfl, rfl, _, rfl, ?_⟩
        rw [intV_non]
        cases ei : numW c with
        | false => exact iteT (nope H3 s3 (by rw [eu, if_neg (by rintro ⟨_, _, z⟩; rw [ei] at z; cases z)]; rfl))
        | true =>
          have iv : intV c = .int (intW c) := if_pos ei
          rw [iv]
          refine iteF ⟨_, rfl, l, _, _, _, rfl, rfl, hl3 s3, rfl, ?_⟩
          refine ⟨_, rfl, l, _, _, _, rfl, rfl, hl3 s3, rfl, ?_⟩
          refine ⟨_, rfl, by show 3 ≤ sizeLine; omega, fun p o hp ho => k _ _ (s3.trans (same_upd hp)) ?_⟩
          have d : FDs K H3 [.str a, .str b, .int (intW c)] [.str a, .str b, .int (intW c)] 0 := .cons oa.dp (.cons ob.dp (.cons (int_dp oc ei) .nil))
          rw [eu, if_pos ⟨ma, mb, ei⟩]
          exact d.tupF hp ho
      · rw [decide_eq_false mb]
        exact iteT (iteT (nope H3 s3 (by rw [eu, if_neg fun z => mb z.2.1]; rfl)))
    · rw [decide_eq_false ma]
      exact iteT (iteT (nope H2 s2 (by rw [eu, if_neg fun z => ma z.1]; rfl)))
end
end Vm
/-! the law reads: lists of entries -/
namespace Vm
open PySem PySem.Spec PyProof.Rows L2 TL
abbrev sEnts : Stmt := top 61
theorem ents_mapg {α β : Type} (f : List Str → Option α) (g : α → β) (ws : List Str) {n : Nat} (hn : 0 < n) : ∀ (k a : Nat), ws.length - a < k → ents (fun t => (f t).map g) ws n a = (ents f ws n a).map fun p => (p.1.map g, p.2)
  | 0, a, h => absurd h (by omega)
  | k + 1, a, h => by
    rw [ents_step _ ws hn, ents_step f ws hn]
    by_cases z : ((ws.drop a).take n).length < n
    · rw [if_pos z, if_pos z]
      rfl
    · rw [if_neg z, if_neg z]
      rw [List.length_take, List.length_drop] at z
      generalize (ws.drop a).take n = t
      cases f (entW t) with
      | none => rfl
      | some v =>
        rw [show (some v).map g = some (g v) from rfl]
        dsimp only
        cases c : isCm (t.getLastD "") with
        | false => rfl
        | true =>
          simp only [if_true]
          rw [ents_mapg f g ws hn k (a + n) (by omega)]
          cases ents f ws n (a + n) with
          | none => rfl
          | some p => rfl
theorem ents_g {α β : Type} (f : List Str → Option α) (g : α → β) (ws : List Str) {n : Nat} (hn : 0 < n) (a : Nat) : ents (fun t => (f t).map g) ws n a = (ents f ws n a).map fun p => (p.1.map g, p.2) := ents_mapg f g ws hn (ws.length - a + 1) a (by omega)
/-- one step -/
def entN {α : Type} (r : Option α) (c : Bool) (rest : Option (List α × Nat)) (b : Nat) : Option (List α × Nat) := match r with
  | none => none
  | some v => if c = true then rest.map fun p => (v :: p.1, p.2) else some ([v], b)
theorem ents_stepN {α : Type} (f : List Str → Option α) (ws : List Str) {n : Nat} (hn : 0 < n) (a : Nat) : ents f ws n a = if ((ws.drop a).take n).length < n then none else entN (f (entW ((ws.drop a).take n))) (isCm (((ws.drop a).take n).getLastD "")) (ents f ws n (a + n)) (a + n) := by
  rw [ents_step f ws hn]
  generalize (ws.drop a).take n = t
  by_cases z : t.length < n
  · rw [if_pos z, if_pos z]
  · rw [if_neg z, if_neg z]
    unfold entN
    cases f (entW t) with
    | none => rfl
    | some v =>
      dsimp only
      cases isCm (t.getLastD "") with
      | false => rfl
      | true =>
        rw [if_pos rfl, if_pos rfl]
        cases ents f ws n (a + n) with
        | none => rfl
        | some p => rfl
/-- None, or what was read and where it ends -/
def ansA (K : PySem.W.Frag) (r : Option (List Tr × Nat)) (v : V) (H' : Hp) : Prop := match r with
  | none => v = .non
  | some (ts, b) => ∃ p vt, v = .ref p ∧ SqT K H' p [vt, .int (b : Int)] ∧ FD K H' vt (.tup ts) 2
theorem ansA.same {K : PySem.W.Frag} {r : Option (List Tr × Nat)} {v : V} {H H' : Hp} (h : ansA K r v H) (s : Same H H') : ansA K r v H' := by
  cases r with
  | none => exact h
  | some p =>
    obtain ⟨ts, b⟩ := p
    obtain ⟨p, vt, e, hq, d⟩ := h
    exact ⟨p, vt, e, sameT s hq, d.sameF s⟩
def spEnts (K : PySem.W.Frag) (f0 : Addr) (φ : List Str → Option Tr) (n : Nat) : Sp := fun vs H Q _ => ∃ (l : Addr) (ws : List Str) (a : Nat), vs = [.ref l, .int (a : Int), .int (n : Int), .ref f0] ∧ H l = some (.lst (ws.map V.str)) ∧ SmQ ws ∧ a ≤ ws.length + 10 ∧
  ∀ v H', Same H H' → ansA K (ents φ ws n a) v H' → Q v H'
theorem DP.non_eq {K : PySem.W.Frag} {H : Hp} {P : Addr → Prop} {v : V} {n : Nat} (d : DP K H P v .non n) : v = .non := by
  obtain ⟨bs, d, _⟩ := d
  cases d
  rfl
theorem cut_at2 (ws : List Str) (a n : Nat) : cutV (ws.map V.str) (some (a : Int)) (some ((a : Int) + (n : Int))) = ((ws.drop a).take n).map V.str := by
  by_cases le : a ≤ ws.length
  · exact cut_at ws a n le
  · have e1 : HT.sIx (ws.map V.str).length 0 (some (a : Int)) = min a ws.length := by
      rw [HT.sIx_nat, List.length_map]
    have z : ws.drop a = [] := List.drop_eq_nil_of_le (by omega)
    rw [z, List.take_nil]
    unfold cutV
    rw [e1, List.drop_eq_nil_of_le (by rw [List.length_map]; omega), List.take_nil]
    rfl
section
variable {P : Program} {w : World} {K : PySem.W.Frag} {mg : Str → Option Value} {base : Heap} {f0 : Addr}
abbrev nmEnts : List Str := ["_law_words", "_law_at", "_law_size", "_law_entry_in", "_law_found", "_law_goes_on", "_law_entry_here"]
theorem scEnts : FnScope nmEnts ["_law_words", "_law_at", "_law_size", "_law_entry_in"] (defScope sEnts) := ⟨rfl, rfl, rfl, by decide +kernel, rfl, by decide +kernel, by decide +kernel⟩
theorem ok_ents {f : Addr} {fd fd0 : FuncData} {φ : List Str → Option Tr} {n k0 : Nat} (F : Fun K "_law_entries" "_law_entries" sEnts f fd) (N : TxtN K mg) (n1 : 1 ≤ n) (n2 : n ≤ 1000) (hk0 : k0 ≤ 3) (nonφ : ∀ {t}, φ t ≠ some .non)
    (G0 : FnOk P w K mg base CX0 k0 f0 fd0 ["_law_entry_here"] (spEL K φ n)) (kp : PySem.W.keepIn K (.ref f0) = true) (b0 : Binds K fd0 ["_law_entry_here"] []) :
    FnOk P w K mg base CX0 4 f fd ["_law_words", "_law_at", "_law_size", "_law_entry_in"] (spEnts K f0 φ n) := by
  refine F.ok scEnts (fun vs H Q E h => ?_) (fun cdv A outer s H vs Q E hr h => ?_)
  · obtain ⟨l, ws, a, rfl, _⟩ := h
    rfl
  · obtain ⟨l, ws, a, rfl, hl, sm, la, k⟩ := h
    have many := sm.many
    have big : sizeLine > 1000000 := by decide
    have hr0 : Room k0 _ := hr.mono hk0
    -- what stands at a turn's start
    let Wd : Addr → Nat → L2.St → Hp → Prop := fun D m σ H' => ∃ (a' : Nat) (ts : List Tr) (xs : List V) (more : Bool) (v6 : Option V), σ = [some (.ref l), some (.int (a' : Int)), some (.int (n : Int)), some (.ref f0), some (.ref D), some (.bl more), v6] ∧ Same H H' ∧ H D = none ∧ H' D = some (.lst xs) ∧ FDs K H' xs ts 1 ∧ xs.length ≤ a' ∧
        a' ≤ ws.length + 10 ∧ m = ws.length + 11 - a' + (if more = true then 1 else 0) ∧ (if more = true then ents φ ws n a = glue ts (ents φ ws n a') else ents φ ws n a = some (ts, a'))
    -- .. and behind the cut comma
    let G1 : TS := fun D0 σ H1 => ∃ (D : Addr) (m a' : Nat) (ts : List Tr) (xs : List V) (q : Addr) (t : List Str) (c : Bool), D0.rt = Q ∧ (∀ σ' H' m', m' < m → Wd D m' σ' H' → D0.nx σ' H') ∧
        σ = [some (.ref l), some (.int (a' : Int)), some (.int (n : Int)), some (.ref f0), some (.ref D), some (.bl c), some (.ref q)] ∧ Same H H1 ∧ H D = none ∧ H1 D = some (.lst xs) ∧ FDs K H1 xs ts 1 ∧ xs.length ≤ a' ∧ a' + n ≤ ws.length ∧ m = ws.length + 11 - a' + 1 ∧
        H1 q = some (.lst (t.map V.str)) ∧ t.length = n ∧ (∀ x ∈ t, WdOk x) ∧ ents φ ws n a = glue ts (entN (φ t) c (ents φ ws n (a' + n)) (a' + n))
    refine ⟨_, pss_cons (ps_par (i := 4) (j := 5) rfl scEnts.nd rfl rfl (by decide) rfl rfl (pa_cons (pe_lst pa_nil) (pa_cons pe_bl pa_nil)) rfl)
      (pss_cons (ps_while PassesOwn.never (pt_val (pv 5))
        (pss_cons (ps_set (i := 6) scEnts.nd rfl (Or.inl rfl) (pe_slice sl_list (pv 0) (po_some (pv 1)) (po_some (pe_op op_add (pv 1) (pv 2)))))
        (pss_cons (ps_if (pt_cmpR op_lt (pe_callB call_len_seq (by rfl) N.len (by decide +kernel) (pa_cons (pv 6) pa_nil)) (pv 2) (nomark _)) (pss_one (ps_ret pe_non)) pss_nil)
        (pss_cons (ps_set (i := 5) scEnts.nd rfl (Or.inl rfl) (pe_cmpR op_eq (pe_slice sl_str (pe_ix ix_list (pv 6) (pe_un un_neg pe_int) (fun _ _ => rfl)) (po_some (pe_un un_neg pe_int)) po_none) pe_str (nomark _)))
        (pss_cons (ps_if (pt_val (pv 5)) (pss_one (ps_set (i := 6) scEnts.nd rfl (Or.inl rfl) (pe_op op_cat (pe_slice sl_list (pv 6) po_none (po_some (pe_un un_neg pe_int))) (pe_lst (pa_cons (pe_slice sl_str (pe_ix ix_list (pv 6) (pe_un un_neg pe_int) (fun _ _ => rfl)) po_none (po_some (pe_un un_neg pe_int))) pa_nil))))) pss_nil)
        (pss_imp (G := G1) (pss_cons (ps_expr (pe_bm PySem.F.plainAttrs_list PySem.F.slot_list_append PySem.F.type_list_append mt_append (pv 4) (pa_cons (pe_callL (i := 3) G0 hr0 rfl (Or.inl rfl) kp b0 .nil pass0 (pa_cons (pv 6) pa_nil)) pa_nil)))
        (pss_cons (ps_if (pt_cmpR op_isN (pe_ix ix_list (pv 4) (pe_un un_neg pe_int) (fun _ _ => rfl)) pe_non (by rfl)) (pss_one (ps_ret pe_non)) pss_nil)
        (pss_one (ps_set (i := 1) scEnts.nd rfl (Or.inl rfl) (pe_op op_add (pv 1) (pv 2)))))) (fun D0 σ H1 g1 => ?_)))))))
      (pss_one (ps_ret (pe_tupF (pa_cons (pe_callTy call_tupleF (by rfl) N.tuple (by decide +kernel) (pa_cons (pv 4) pa_nil)) (pa_cons (pv 1) pa_nil)))))), ?_⟩
    · obtain ⟨D, m, a', ts, xs, q, t, c, eD, nx, rfl, s1, hD, e1, d1, lx, la', em, eq, lt, okt, er⟩ := g1
      refine ⟨_, rfl, .inl ⟨rfl, _, SqL.of e1⟩, ?_⟩
      refine ⟨rfl, _, rfl, q, t, rfl, SqL.of eq, lt, okt, fun v H2 s2 d2 => ?_⟩
      have e2 := s2 _ _ e1
      have nl : NL H2 (upd H2 D (.lst (xs ++ [v]))) := fun b u n e => by
        rw [upd_ne fun z => by rw [z, e2] at e; exact n _ (Option.some.inj e).symm]
        exact e
      refine ⟨D, xs, _, rfl, rfl, e2, by omega, ?_⟩
      have e3 : upd H2 D (.lst (xs ++ [v])) D = some (.lst (xs ++ [v])) := upd_same
      have s3 : Same H (upd H2 D (.lst (xs ++ [v]))) := fun b u e => by
        rw [upd_ne (ne_of_none e hD)]
        exact s2 _ _ (s1 _ _ e)
      have d3 := (d1.sameF s2).nlF nl
      have d4 := d2.nlF nl
      show tSeq _ _ _ _ (upd H2 D (.lst (xs ++ [v])))
      generalize upd H2 D (.lst (xs ++ [v])) = H3 at e3 s3 d3 d4 ⊢
      refine ⟨_, rfl, _, rfl, D, _, _, v, rfl, rfl, SqL.of e3, atI_last xs v, rfl, _, rfl, ?_⟩
      cases ev : φ t with
      | none =>
        rw [ev] at er d4
        have vn : v = .non := d4.non_eq
        subst vn
        refine iteT ?_
        show D0.rt _ _
        rw [eD]
        exact k _ _ s3 (by rw [er]; rfl)
      | some tv =>
        rw [ev] at er d4
        have d4 : FD K H3 v tv 1 := d4
        have vn : v ≠ .non := fun z => by
          subst z
          obtain ⟨bs, d, _⟩ := d4
          cases d
          exact nonφ ev
        refine if_as (decide_eq_false vn) (iteF ?_)
        refine ⟨_, rfl, _, rfl, _, _, rfl, rfl, ?_⟩
        refine nx _ H3 (ws.length + 11 - (a' + n) + (if c = true then 1 else 0)) (by rw [em]; split <;> omega) ⟨a' + n, ts ++ [tv], xs ++ [v], c, some (.ref q), rfl, s3, hD, e3, d3.append (.cons d4 .nil), ?_, by omega, rfl, ?_⟩
        · rw [List.length_append]
          show xs.length + 1 ≤ a' + n
          omega
        · rw [er]
          unfold entN
          cases c with
          | false => rfl
          | true =>
            rw [if_pos rfl]
            cases ents φ ws n (a' + n) with
            | none => rfl
            | some p =>
              obtain ⟨us, b⟩ := p
              show some (ts ++ (tv :: us), b) = some ((ts ++ [tv]) ++ us, b)
              rw [List.append_assoc]
              rfl
    · refine ⟨Nat.zero_le _, fun D hD => ?_⟩
      refine ⟨_, _, rfl, ?_⟩
      refine ⟨Wd D, ⟨_, a, [], [], true, none, rfl, same_upd hD, hD, upd_same, .nil, Nat.zero_le _, la, rfl, by rw [if_pos rfl, glue_nil]⟩, ?_⟩
      rintro m σ H2 ⟨a', ts, xs, more, v6, rfl, s2, _, e2, d2, lx, la', em, er⟩
      refine ⟨_, rfl, _, rfl, ?_⟩
      cases more with
      | false =>
        rw [if_neg (by decide)] at er
        refine iteF ?_
        refine ⟨_, rfl, D, _, rfl, SqL.of e2, fun q ob hq ho => ?_⟩
        have s3 := same_upd (o := .frz ob (.tup xs)) hq
        have d3 := d2.tupF hq ho
        generalize upd H2 q (.frz ob (.tup xs)) = H3 at s3 d3 ⊢
        refine ⟨_, rfl, by show 2 ≤ sizeLine; omega, fun r oc hr' hc => ?_⟩
        have s4 := same_upd (o := .frz oc (.tup [.ref q, .int (a' : Int)])) hr'
        refine k _ _ ((s2.trans s3).trans s4) ?_
        rw [er]
        exact ⟨r, .ref q, rfl, .inl (.inr ⟨oc, upd_same⟩), d3.sameF s4⟩
      | true =>
        rw [if_pos rfl] at er em
        refine iteT ⟨fun σ' H' => ∃ m', m' < m ∧ Wd D m' σ' H', fun _ _ z => z, ?_⟩
        have st := ents_stepN φ ws (show 0 < n by omega) a'
        refine ⟨_, rfl, _, rfl, _, rfl, _, rfl, _, rfl, _, _, rfl, rfl, _, rfl, l, _, rfl, SqL.of (s2 _ _ hl), fun p hp => ?_⟩
        rw [cut_at2 ws a' n]
        have l1 := List.length_take_le n (ws.drop a')
        have l2 : ((ws.drop a').take n).length = min n (ws.length - a') := by rw [List.length_take, List.length_drop]
        have mem : ∀ x ∈ (ws.drop a').take n, x ∈ ws := fun x m => List.mem_of_mem_drop (List.mem_of_mem_take m)
        generalize (ws.drop a').take n = t at st l1 l2 mem ⊢
        have s3 := same_upd (o := .lst (t.map V.str)) hp
        have e3 : upd H2 p (.lst (t.map V.str)) p = some (.lst (t.map V.str)) := upd_same
        show tSeq _ _ _ _ (upd H2 p (.lst (t.map V.str)))
        generalize upd H2 p (.lst (t.map V.str)) = H3 at s3 e3 ⊢
        have s03 := s2.trans s3
        have d3 := d2.sameF s3
        refine ⟨_, rfl, p, _, rfl, .inl (SqL.of e3), _, rfl, _, _, rfl, rfl, _, rfl, ?_⟩
        rw [List.length_map]
        refine ite_ (fun lt => ?_) (fun lt => ?_)
        · rw [if_pos (by omega)] at st
          refine k _ _ s03 ?_
          rw [er, st]
          rfl
        · have lt : t.length = n := by omega
          rw [if_neg (by omega)] at st
          have ne : t ≠ [] := fun q => by
            rw [q] at lt
            have : 0 = n := lt
            omega
          have mg : t.getLastD "" ∈ t := by
            rw [List.getLastD_eq_getLast?, List.getLast?_eq_some_getLast ne]
            exact List.getLast_mem ne
          have lg := (sm.wd (mem _ mg)).len
          refine ⟨_, rfl, _, rfl, p, _, _, _, rfl, rfl, SqL.of e3, at_last ne, _, rfl, _, rfl, _, rfl, by omega, rfl, ?_⟩
          have ec : decide (V.str (cutS (t.getLastD "") (some (-1)) none) = V.str ",") = isCm (t.getLastD "") := by
            rw [← isCm_law, Bool.eq_iff_iff, decide_eq_true_iff, decide_eq_true_iff]
            exact ⟨fun z => V.str.inj z, fun z => by rw [z]⟩
          have wd : ∀ x ∈ entW t, WdOk x := fun x m => by
            obtain ⟨y, my, sy⟩ := entW_part (ws := ws) ne mem x m
            exact sm.part x ⟨y, my, sy⟩
          have le : (entW t).length = n := (entW_len ne).trans lt
          have la2 : a' + n ≤ ws.length := by omega
          have fin : ∀ (c : Bool) (q : Addr) (H4 : Hp), c = isCm (t.getLastD "") → Same H3 H4 → H4 q = some (.lst ((entW t).map V.str)) → ∀ D0 : Ends, D0.rt = Q → (∀ σ' H' m', m' < m → Wd D m' σ' H' → D0.nx σ' H') → G1 D0 [some (.ref l), some (.int (a' : Int)), some (.int (n : Int)), some (.ref f0), some (.ref D), some (.bl c), some (.ref q)] H4 := fun c q H4 hc s4 e4 D0 eD nx =>
            ⟨D, m, a', ts, xs, q, entW t, c, eD, nx, rfl, s03.trans s4, hD, s4 _ _ (s3 _ _ e2), d3.sameF s4, lx, la2, em, e4, le, wd, by rw [er, st, hc]⟩
          refine ⟨_, rfl, _, rfl, ?_⟩
          show if decide (V.str (cutS (t.getLastD "") (some (-1)) none) = V.str ",") = true then _ else _
          rw [ec]
          cases cc : isCm (t.getLastD "") with
          | false =>
            refine iteF ?_
            have ev : entW t = t := entW_no ne cc
            refine fin _ p H3 ?_ (Same.refl _) (by rw [ev]; exact e3) _ rfl fun σ' H' m' lm w => ⟨m', lm, w⟩
            exact cc.symm
          | true =>
            refine iteT ?_
            refine ⟨_, rfl, _, rfl, _, rfl, p, _, rfl, SqL.of e3, fun q hq => ?_⟩
            rw [cut_but]
            have s4 := same_upd (o := .lst (t.dropLast.map V.str)) hq
            have e4 : upd H3 q (.lst (t.dropLast.map V.str)) q = some (.lst (t.dropLast.map V.str)) := upd_same
            generalize upd H3 q (.lst (t.dropLast.map V.str)) = H4 at s4 e4 ⊢
            refine ⟨_, rfl, _, rfl, p, _, _, _, rfl, rfl, SqL.of (s4 _ _ e3), at_last ne, _, rfl, _, rfl, _, rfl, by omega, ?_⟩
            refine ⟨by show 1 ≤ sizeLine; omega, fun r hr' => ?_⟩
            have s5 := same_upd (o := .lst [V.str (cutS (t.getLastD "") none (some (-1)))]) hr'
            refine ⟨q, r, _, _, rfl, rfl, s5 _ _ e4, upd_same, ?_, fun u hu => ?_⟩
            · rw [List.length_map, List.length_dropLast]
              show t.length - 1 + 1 ≤ sizeLine
              omega
            have ev : t.dropLast.map V.str ++ [V.str (cutS (t.getLastD "") none (some (-1)))] = (entW t).map V.str := by
              unfold entW
              rw [List.map_append, cutCm_law cc]
              rfl
            rw [ev]
            refine fin _ u _ ?_ ((s4.trans s5).trans (same_upd hu)) upd_same _ rfl fun σ' H' m' lm w => ⟨m', lm, w⟩
            exact cc.symm
end
end Vm
/-! the law reads: conditions' lists, bodies -/
namespace Vm
open PySem PySem.Spec PyProof.Rows L2 TL
abbrev sConds : Stmt := top 62
abbrev sLists : Stmt := top 63
theorem cut_one (ws : List Str) (a : Nat) : cutV (ws.map V.str) (some (a : Int)) (some ((a : Int) + 1)) = ((ws.drop a).take 1).map V.str := cut_at2 ws a 1
theorem one_iff (ws : List Str) (a : Nat) (w : Str) : ((ws.drop a).take 1 = [w]) ↔ ws[a]? = some w := by
  rw [take1]
  cases ws[a]? with
  | none => exact ⟨(fun h => by cases h), (fun h => by cases h)⟩
  | some x => exact ⟨fun h => by rw [List.singleton_inj.mp h], fun h => by rw [Option.some.inj h]⟩
theorem eqv_one (ws : List Str) (a : Nat) (w : Str) : PyData.eqv (.list (((ws.drop a).take 1).map PyData.str)) (.list ([w].map PyData.str)) = decide (ws[a]? = some w) := by
  show PyData.eqvAll _ _ = _
  rw [eqvStrs, Bool.eq_iff_iff, decide_eq_true_iff, decide_eq_true_iff]
  exact one_iff ws a w
def mapR {α : Type} (g : α → Tr) (r : Option (List α × Nat)) : Option (List Tr × Nat) := r.map fun p => (p.1.map g, p.2)
def spConds (K : PySem.W.Frag) : Sp := fun vs H Q _ => ∃ (l : Addr) (ws : List Str) (a : Nat), vs = [.ref l, .int (a : Int)] ∧ H l = some (.lst (ws.map V.str)) ∧ SmQ ws ∧ a ≤ ws.length + 5 ∧ ∀ v H', Same H H' → ansA K (mapR cndR (whT ws a)) v H' → Q v H'
section
variable {P : Program} {w : World} {K : PySem.W.Frag} {mg : Str → Option Value} {base : Heap} {fEn fUs fCo fCs : Addr}
theorem scConds : FnScope ["_law_words", "_law_at"] ["_law_words", "_law_at"] (defScope sConds) := ⟨rfl, rfl, rfl, by decide +kernel, rfl, by decide +kernel, by decide +kernel⟩
theorem ok_conds {f : Addr} {fd fdE : FuncData} (F : Fun K "_law_conditions" "_law_conditions" sConds f fd)
    (cE : Calls K mg "_law_entries" fEn) (GE : FnOk P w K mg base CX0 4 fEn fdE ["_law_words", "_law_at", "_law_size", "_law_entry_in"] (spEnts K fCo condφ 3)) (bE : Binds K fdE ["_law_words", "_law_at", "_law_size", "_law_entry_in"] [])
    (cC : Calls K mg "_law_condition_in" fCo) :
    FnOk P w K mg base CX0 5 f fd ["_law_words", "_law_at"] (spConds K) := by
  refine F.ok scConds (fun vs H Q E h => ?_) (fun cdv A outer s H vs Q E hr h => ?_)
  · obtain ⟨l, ws, a, rfl, _⟩ := h
    rfl
  · obtain ⟨l, ws, a, rfl, hl, sm, la, k⟩ := h
    have many := sm.many
    have big : sizeLine > 1000000 := by decide
    have hu : (A.deeper (PyProof.Rows.envOfC "_law_conditions" (defScope sConds) s.heap.objs.size f cdv)).units + 8 < cLine := by
      have := hr.units
      omega
    refine ⟨_, pss_cons (ps_if (pt_cmpR (op_neP hu) (pe_slice sl_list (pv 0) (po_some (pv 1)) (po_some (pe_op op_add (pv 1) pe_int))) (pe_lst (pa_cons pe_str pa_nil)) (nomark _)) (pss_one (ps_ret (pe_tupF (pa_cons (pe_tupF pa_nil) (pa_cons (pv 1) pa_nil))))) pss_nil)
      (pss_one (ps_ret (pe_call GE hr rfl cE.g cE.k bE .nil pass0 (pa_cons (pv 0) (pa_cons (pe_op op_add (pv 1) pe_int) (pa_cons pe_int (pa_cons (pe_glob (v := .ref fCo) (by rfl) cC.g rfl) pa_nil))))))), ?_⟩
    refine ⟨_, rfl, _, rfl, _, rfl, _, rfl, _, _, rfl, rfl, _, rfl, l, _, rfl, SqL.of hl, fun p hp => ?_⟩
    rw [cut_one]
    have s1 := same_upd (o := .lst (((ws.drop a).take 1).map V.str)) hp
    have e1 : upd H p (.lst (((ws.drop a).take 1).map V.str)) p = some (.lst (((ws.drop a).take 1).map V.str)) := upd_same
    generalize upd H p (.lst (((ws.drop a).take 1).map V.str)) = H1 at s1 e1 ⊢
    refine ⟨by show 1 ≤ sizeLine; omega, fun q hq => ?_⟩
    have s2 := same_upd (o := .lst [V.str "where"]) hq
    refine ⟨.list (((ws.drop a).take 1).map PyData.str), .list ((["where"] : List Str).map PyData.str), .lst (SqL.of (s2 _ _ e1)) (dpStrs _ _ _), .lst (SqL.of upd_same) (dpStrs _ _ (["where"] : List Str)), plainStrs _, plainStrs _, by simp only [PyData.depth, depthStrs]; decide, _, rfl, ?_⟩
    rw [eqv_one]
    generalize upd H1 q (.lst [V.str "where"]) = H2 at s2 ⊢
    have s02 := s1.trans s2
    by_cases z : ws[a]? = some ("where" : Str)
    · rw [decide_eq_true z]
      refine iteF ?_
      have lt := get_lt z
      refine ⟨_, rfl, _, rfl, _, _, rfl, rfl, l, ws, a + 1, rfl, s02 _ _ hl, sm, by omega, fun v H3 s3 an => k v H3 (s02.trans s3) ?_⟩
      have e : whT ws a = ents condT ws 3 (a + 1) := if_pos z
      rw [e]
      have e2 : ents condφ ws 3 (a + 1) = mapR cndR (ents condT ws 3 (a + 1)) := ents_g condT cndR ws (by decide) (a + 1)
      rw [← e2]
      exact an
    · rw [decide_eq_false z]
      have e : whT ws a = some ([], a) := if_neg z
      refine iteT ?_
      refine ⟨Nat.zero_le _, fun r o hr' ho => ?_⟩
      have d0 : FDs K H2 [] [] 1 := .nil
      have d1 := d0.tupF hr' ho
      have s3 := same_upd (o := .frz o (.tup [])) hr'
      generalize upd H2 r (.frz o (.tup [])) = H3 at d1 s3 ⊢
      refine ⟨_, rfl, by show 2 ≤ sizeLine; omega, fun u o2 hu2 ho2 => ?_⟩
      have s4 := same_upd (o := .frz o2 (.tup [.ref r, .int (a : Int)])) hu2
      refine k _ _ ((s02.trans s3).trans s4) ?_
      rw [e]
      exact ⟨u, .ref r, rfl, .inl (.inr ⟨o2, upd_same⟩), d1.sameF s4⟩
end
end Vm
/-! the law reads: bodies -/
namespace Vm
open PySem PySem.Spec PyProof.Rows L2 TL
/-- a pair of data and a place -/
def prA (K : PySem.W.Frag) (H : Hp) (v : V) (t : Tr) (n b : Nat) : Prop := ∃ p v1, v = .ref p ∧ SqT K H p [v1, .int (b : Int)] ∧ FD K H v1 t n
theorem SqT.nl {K : PySem.W.Frag} {H H' : Hp} {a : Addr} {xs : List V} (h : SqT K H a xs) (k : NL H H') : SqT K H' a xs := by
  rcases h with (h | ⟨o, h⟩) | h
  · exact .inl (.inl (k _ _ (fun _ z => by cases z) h))
  · exact .inl (.inr ⟨o, k _ _ (fun _ z => by cases z) h⟩)
  · exact .inr h
theorem prA.nl {K : PySem.W.Frag} {H H' : Hp} {v : V} {t : Tr} {n b : Nat} (h : prA K H v t n b) (k : NL H H') : prA K H' v t n b := let ⟨p, v1, e, q, d⟩ := h; ⟨p, v1, e, SqT.nl q k, d.nlF k⟩
theorem prA.same {K : PySem.W.Frag} {H H' : Hp} {v : V} {t : Tr} {n b : Nat} (h : prA K H v t n b) (k : Same H H') : prA K H' v t n b := let ⟨p, v1, e, q, d⟩ := h; ⟨p, v1, e, sameT k q, d.sameF k⟩
theorem ansA.pr {K : PySem.W.Frag} {H : Hp} {α : Type} {g : α → Tr} {r : Option (List α × Nat)} {v : V} {xs : List α} {b : Nat} (h : ansA K (mapR g r) v H) (e : r = some (xs, b)) : prA K H v (.tup (xs.map g)) 2 b := by
  rw [e] at h
  exact h
theorem ansA.no {K : PySem.W.Frag} {H : Hp} {α : Type} {g : α → Tr} {r : Option (List α × Nat)} {v : V} (h : ansA K (mapR g r) v H) (e : r = none) : v = .non := by
  rw [e] at h
  exact h
def listsA (K : PySem.W.Frag) (r : Option (Bd × Nat)) (v : V) (H : Hp) : Prop := match r with
  | none => v = .non
  | some (b, c) => ∃ p v1 v2 v3, v = .ref p ∧ SqT K H p [v1, v2, v3, .int (c : Int)] ∧ FD K H v1 (usR b.us) 2 ∧ FD K H v2 (whR b.wh) 2 ∧ FD K H v3 (woR b.wo) 4
def spLists (K : PySem.W.Frag) : Sp := fun vs H Q _ => ∃ (l : Addr) (ws : List Str) (a : Nat), vs = [.ref l, .int (a : Int)] ∧ H l = some (.lst (ws.map V.str)) ∧ SmQ ws ∧ a ≤ ws.length + 2 ∧ ∀ v H', Same H H' → listsA K (bodyT ws a) v H' → Q v H'
theorem body_eq {ws : List Str} {a b c : Nat} {us : List Use} {wh : List Cnd} (h : ws[a]? = some ("from" : Str)) (e : usT ws (a + 1) = some (us, b)) (g : whT ws b = some (wh, c)) : bodyT ws a = (woT ws c).map fun p => (⟨us, wh, p.1⟩, p.2) := by
  have w : wo1 ws (a + 1) = some ((us, wh), c) := by
    unfold wo1
    rw [e]
    dsimp only
    rw [g]
  unfold bodyT
  rw [if_pos h, w]
  dsimp only
  cases woT ws c with
  | none => rfl
  | some p => rfl
theorem body_no1 {ws : List Str} {a : Nat} (h : ws[a]? ≠ some ("from" : Str)) : bodyT ws a = none := if_neg h
theorem body_no2 {ws : List Str} {a : Nat} (h : ws[a]? = some ("from" : Str)) (e : usT ws (a + 1) = none) : bodyT ws a = none := by
  unfold bodyT wo1
  rw [if_pos h, e]
theorem body_no3 {ws : List Str} {a b : Nat} {us : List Use} (h : ws[a]? = some ("from" : Str)) (e : usT ws (a + 1) = some (us, b)) (g : whT ws b = none) : bodyT ws a = none := by
  unfold bodyT wo1
  rw [if_pos h, e]
  dsimp only
  rw [g]
section
variable {P : Program} {w : World} {K : PySem.W.Frag} {mg : Str → Option Value} {base : Heap} {fEn fUs fCo fCs : Addr}
abbrev nmLists : List Str := ["_law_words", "_law_at", "_law_some", "_law_told_here", "_law_rest", "_law_inner", "_law_mates"]
theorem scLists : FnScope nmLists ["_law_words", "_law_at"] (defScope sLists) := ⟨rfl, rfl, rfl, by decide +kernel, rfl, by decide +kernel, by decide +kernel⟩
theorem ok_lists {f : Addr} {fd fdE fdC : FuncData} (F : Fun K "_law_lists" "_law_lists" sLists f fd) (N : TxtN K mg)
    (cE : Calls K mg "_law_entries" fEn) (GE : FnOk P w K mg base CX0 4 fEn fdE ["_law_words", "_law_at", "_law_size", "_law_entry_in"] (spEnts K fUs useφ 3)) (bE : Binds K fdE ["_law_words", "_law_at", "_law_size", "_law_entry_in"] [])
    (cU : Calls K mg "_law_use_in" fUs)
    (cC : Calls K mg "_law_conditions" fCs) (GC : FnOk P w K mg base CX0 5 fCs fdC ["_law_words", "_law_at"] (spConds K)) (bC : Binds K fdC ["_law_words", "_law_at"] []) :
    FnOk P w K mg base CX0 6 f fd ["_law_words", "_law_at"] (spLists K) := by
  refine F.ok scLists (fun vs H Q E h => ?_) (fun cdv A outer s H vs Q E hr h => ?_)
  · obtain ⟨l, ws, a, rfl, _⟩ := h
    rfl
  · obtain ⟨l, ws, a, rfl, hl, sm, la, k⟩ := h
    have many := sm.many
    have big : sizeLine > 1000000 := by decide
    have hr4 : Room 4 _ := hr.mono (by decide)
    have hu : (A.deeper (PyProof.Rows.envOfC "_law_lists" (defScope sLists) s.heap.objs.size f cdv)).units + 8 < cLine := by
      have := hr.units
      omega
    let Rs : Option (List Use × Nat) := if ws[a]? = some ("from" : Str) then usT ws (a + 1) else none
    let Wd : Addr → Nat → Nat → L2.St → Hp → Prop := fun D c0 m σ H' => ∃ (a' : Nat) (vs0 vt : V) (us : List Use) (wh : List Cnd) (b : Nat) (wo : List (List Use × List Cnd)) (xs : List V) (v5 v6 : Option V), σ = [some (.ref l), some (.int (a' : Int)), some vs0, some vt, some (.ref D), v5, v6] ∧ Same H H' ∧ H D = none ∧ H' D = some (.lst xs) ∧ FDs K H' xs (wo.map woPR) 3 ∧ xs.length ≤ a' ∧ a' ≤ ws.length ∧
        m = ws.length - a' ∧ woT ws c0 = glue wo (woT ws a') ∧ ws[a]? = some ("from" : Str) ∧ usT ws (a + 1) = some (us, b) ∧ whT ws b = some (wh, c0) ∧ prA K H' vs0 (usR us) 2 b ∧ prA K H' vt (whR wh) 2 c0
    let G1 : TS := fun D0 σ H1 => D0.rt = Q ∧ ∃ vs0, σ = [some (.ref l), some (.int (a : Int)), some vs0, none, none, none, none] ∧ Same H H1 ∧ ansA K (mapR useR Rs) vs0 H1
    let G2 : TS := fun D0 σ H1 => D0.rt = Q ∧ ∃ vs0 vt, σ = [some (.ref l), some (.int (a : Int)), some vs0, some vt, none, none, none] ∧ Same H H1 ∧
      ((bodyT ws a = none ∧ vt = .non) ∨ ∃ us wh b c, ws[a]? = some ("from" : Str) ∧ usT ws (a + 1) = some (us, b) ∧ whT ws b = some (wh, c) ∧ prA K H1 vs0 (usR us) 2 b ∧ prA K H1 vt (whR wh) 2 c)
    let G4 : TS := fun D0 σ H1 => ∃ (D : Addr) (c0 m a' : Nat) (vs0 vt v5 v6 : V) (us : List Use) (wh : List Cnd) (b : Nat) (wo : List (List Use × List Cnd)) (xs : List V), D0.rt = Q ∧ (∀ σ' H' m', m' < m → Wd D c0 m' σ' H' → D0.nx σ' H') ∧
      σ = [some (.ref l), some (.int (a' : Int)), some vs0, some vt, some (.ref D), some v5, some v6] ∧ Same H H1 ∧ H D = none ∧ H1 D = some (.lst xs) ∧ FDs K H1 xs (wo.map woPR) 3 ∧ xs.length ≤ a' ∧ a' ≤ ws.length ∧
        m = ws.length - a' ∧ woT ws c0 = glue wo (woT ws a') ∧ ws[a]? = some ("from" : Str) ∧ usT ws (a + 1) = some (us, b) ∧ whT ws b = some (wh, c0) ∧ prA K H1 vs0 (usR us) 2 b ∧ prA K H1 vt (whR wh) 2 c0 ∧ ws[a']? = some ("without" : Str) ∧
        ((wo1 ws (a' + 1) = none ∧ v6 = .non) ∨ ∃ us2 wh2 b2 c2, wo1 ws (a' + 1) = some ((us2, wh2), c2) ∧ prA K H1 v5 (usR us2) 2 b2 ∧ prA K H1 v6 (whR wh2) 2 c2)
    refine ⟨_, pss_cons (ps_set (i := 2) scLists.nd rfl (Or.inl rfl) (pe_ifExp (pt_cmpR (op_eqP hu) (pe_slice sl_list (pv 0) (po_some (pv 1)) (po_some (pe_op op_add (pv 1) pe_int))) (pe_lst (pa_cons pe_str pa_nil)) (nomark _))
          (pe_call GE hr4 rfl cE.g cE.k bE .nil pass0 (pa_cons (pv 0) (pa_cons (pe_op op_add (pv 1) pe_int) (pa_cons pe_int (pa_cons (pe_glob (v := .ref fUs) (by rfl) cU.g rfl) pa_nil))))) pe_non))
      (pss_imp (G := G1) (pss_cons (ps_set (i := 3) scLists.nd rfl (Or.inl rfl) (pe_ifExp (pt_cmpR op_isN (pv 2) pe_non (by rfl)) pe_non (pe_call GC hr rfl cC.g cC.k bC .nil pass0 (pa_cons (pv 0) (pa_cons (pe_ix ix_tup (pv 2) pe_int (fun _ _ => rfl)) pa_nil)))))
      (pss_imp (G := G2) (pss_cons (ps_if (pt_cmpR op_isN (pv 3) pe_non (by rfl)) (pss_one (ps_ret pe_non)) pss_nil)
      (pss_cons (ps_par (i := 4) (j := 1) rfl scLists.nd rfl rfl (by decide) rfl rfl (pa_cons (pe_lst pa_nil) (pa_cons (pe_ix ix_tup (pv 3) pe_int (fun _ _ => rfl)) pa_nil)) rfl)
      (pss_cons (ps_while PassesOwn.never (pt_cmpR (op_eqP hu) (pe_slice sl_list (pv 0) (po_some (pv 1)) (po_some (pe_op op_add (pv 1) pe_int))) (pe_lst (pa_cons pe_str pa_nil)) (nomark _))
        (pss_cons (ps_set (i := 5) scLists.nd rfl (Or.inl rfl) (pe_call GE hr4 rfl cE.g cE.k bE .nil pass0 (pa_cons (pv 0) (pa_cons (pe_op op_add (pv 1) pe_int) (pa_cons pe_int (pa_cons (pe_glob (v := .ref fUs) (by rfl) cU.g rfl) pa_nil))))))
        (pss_cons (ps_set (i := 6) scLists.nd rfl (Or.inl rfl) (pe_ifExp (pt_cmpR op_isN (pv 5) pe_non (by rfl)) pe_non (pe_call GC hr rfl cC.g cC.k bC .nil pass0 (pa_cons (pv 0) (pa_cons (pe_ix ix_tup (pv 5) pe_int (fun _ _ => rfl)) pa_nil)))))
        (pss_imp (G := G4) (pss_cons (ps_if (pt_cmpR op_isN (pv 6) pe_non (by rfl)) (pss_one (ps_ret pe_non)) pss_nil)
        (pss_cons (ps_expr (pe_bm PySem.F.plainAttrs_list PySem.F.slot_list_append PySem.F.type_list_append mt_append (pv 4) (pa_cons (pe_tupF (pa_cons (pe_ix ix_tup (pv 5) pe_int (fun _ _ => rfl)) (pa_cons (pe_ix ix_tup (pv 6) pe_int (fun _ _ => rfl)) pa_nil))) pa_nil)))
        (pss_one (ps_set (i := 1) scLists.nd rfl (Or.inl rfl) (pe_ix ix_tup (pv 6) pe_int (fun _ _ => rfl)))))) (fun D0 σ H1 g4 => ?_)))))
      (pss_one (ps_ret (pe_tupF (pa_cons (pe_ix ix_tup (pv 2) pe_int (fun _ _ => rfl)) (pa_cons (pe_ix ix_tup (pv 3) pe_int (fun _ _ => rfl)) (pa_cons (pe_callTy call_tupleF (by rfl) N.tuple (by decide +kernel) (pa_cons (pv 4) pa_nil)) (pa_cons (pv 1) pa_nil)))))))))) (fun D0 σ H1 g2 => ?_))) (fun D0 σ H1 g1 => ?_)), ?_⟩
    · obtain ⟨D, c0, m, a', vs0, vt, v5, v6, us, wh, b, wo, xs, eD, nx, rfl, s1, hD, e1, dx, lx, la', em, ew, ef, eus, ewh, p0, pt, ewi, cas⟩ := g4
      have st := wo_step ws a'
      rw [if_pos ewi] at st
      have eb := body_eq ef eus ewh
      have lt := get_lt ewi
      refine ⟨_, rfl, rfl, _, rfl, ?_⟩
      rcases cas with ⟨en, rfl⟩ | ⟨us2, wh2, b2, c2, en, q5, q6⟩
      · refine if_as (decide_eq_true rfl) (iteT ?_)
        show D0.rt _ _
        rw [eD]
        refine k _ _ s1 ?_
        rw [en] at st
        rw [eb, ew, st]
        rfl
      · obtain ⟨p5, w5, rfl, h5, d5⟩ := q5
        obtain ⟨p6, w6, rfl, h6, d6⟩ := q6
        rw [en] at st
        dsimp only at st
        obtain ⟨_, c22, c23⟩ := wo1_on en
        refine if_as (decide_eq_false fun z => by cases z) (iteF ?_)
        refine ⟨_, rfl, .inl ⟨rfl, _, SqL.of e1⟩, ?_⟩
        refine ⟨_, rfl, p5, _, _, _, rfl, rfl, h5, rfl, ?_⟩
        refine ⟨_, rfl, p6, _, _, _, rfl, rfl, h6, rfl, ?_⟩
        refine ⟨by show 2 ≤ sizeLine; omega, fun q ob hq ho => ?_⟩
        have dp : FDs K H1 [w5, w6] [usR us2, whR wh2] 2 := .cons d5 (.cons d6 .nil)
        have dt := dp.tupF hq ho
        have s2 := same_upd (o := .frz ob (.tup [w5, w6])) hq
        have e2 := s2 _ _ e1
        have dx2 := dx.sameF s2
        have p02 := p0.same s2
        have pt2 := pt.same s2
        have h62 : SqT K _ p6 [w6, .int (c2 : Int)] := sameT s2 h6
        have s12 := s1.trans s2
        generalize upd H1 q (.frz ob (.tup [w5, w6])) = H2 at dt s2 e2 dx2 p02 pt2 h62 s12 ⊢
        have nl : NL H2 (upd H2 D (.lst (xs ++ [V.ref q]))) := fun b u n e => by
          rw [upd_ne fun z => by rw [z, e2] at e; exact n _ (Option.some.inj e).symm]
          exact e
        refine ⟨D, xs, _, rfl, rfl, e2, by omega, ?_⟩
        refine ⟨_, rfl, p6, _, _, _, rfl, rfl, SqT.nl h62 nl, rfl, ?_⟩
        refine nx _ _ (ws.length - c2) (by omega) ⟨c2, vs0, vt, us, wh, b, wo ++ [(us2, wh2)], xs ++ [V.ref q], some (.ref p5), some (.ref p6), rfl, fun b u e => ?_, hD, upd_same, ?_, ?_, c22, rfl, ?_, ef, eus, ewh, p02.nl nl, pt2.nl nl⟩
        · rw [upd_ne (ne_of_none e hD)]
          exact s12 _ _ e
        · rw [List.map_append]
          exact (dx2.nlF nl).append (.cons (dt.nlF nl) .nil)
        · rw [List.length_append]
          show xs.length + 1 ≤ c2
          omega
        · rw [ew, st]
          cases woT ws c2 with
          | none => rfl
          | some p =>
            obtain ⟨ps, e⟩ := p
            show some (wo ++ ((us2, wh2) :: ps), e) = some ((wo ++ [(us2, wh2)]) ++ ps, e)
            rw [List.append_assoc]
            rfl
    · obtain ⟨eD, vs0, vt, rfl, s1, cas⟩ := g2
      refine ⟨_, rfl, rfl, _, rfl, ?_⟩
      rcases cas with ⟨en, rfl⟩ | ⟨us, wh, b, c, ef, eus, ewh, p0, pt⟩
      · refine if_as (decide_eq_true rfl) (iteT ?_)
        show D0.rt _ _
        rw [eD]
        refine k _ _ s1 ?_
        rw [en]
        rfl
      · have eb := body_eq ef eus ewh
        obtain ⟨_, bl, _⟩ := usT_on eus
        obtain ⟨_, cl⟩ := whT_on bl ewh
        obtain ⟨q0, w0, rfl, h0, d0⟩ := id p0
        obtain ⟨q3, w3, rfl, h3, d3⟩ := id pt
        refine if_as (decide_eq_false fun z => by cases z) (iteF ?_)
        refine ⟨Nat.zero_le _, fun D hD => ?_⟩
        have s2 := same_upd (o := .lst []) hD
        have e2 : upd H1 D (.lst []) D = some (.lst []) := upd_same
        have p02 := p0.same s2
        have pt2 := pt.same s2
        have h32 : SqT K _ q3 [w3, .int (c : Int)] := sameT s2 h3
        generalize upd H1 D (.lst []) = H2 at s2 e2 p02 pt2 h32 ⊢
        refine ⟨_, rfl, q3, _, _, _, rfl, rfl, h32, rfl, ?_⟩
        refine ⟨_, _, rfl, ?_⟩
        have hD0 := s1.free hD
        refine ⟨Wd D c, ⟨_, c, .ref q0, .ref q3, us, wh, b, [], [], none, none, rfl, s1.trans s2, hD0, e2, .nil, Nat.zero_le _, cl, rfl, (glue_nil _).symm, ef, eus, ewh, p02, pt2⟩, ?_⟩
        rintro m σ H3 ⟨a', vs0, vt, us', wh', b', wo, xs, v5, v6, rfl, s3, _, e3, dx, lx, la', em, ew, ef', eus', ewh', p03, pt3⟩
        have st := wo_step ws a'
        refine ⟨_, rfl, _, rfl, _, rfl, _, rfl, _, _, rfl, rfl, _, rfl, l, _, rfl, SqL.of (s3 _ _ hl), fun p hp => ?_⟩
        rw [cut_one]
        have s4 := same_upd (o := .lst (((ws.drop a').take 1).map V.str)) hp
        have e4 : upd H3 p (.lst (((ws.drop a').take 1).map V.str)) p = some (.lst (((ws.drop a').take 1).map V.str)) := upd_same
        generalize upd H3 p (.lst (((ws.drop a').take 1).map V.str)) = H4 at s4 e4 ⊢
        refine ⟨by show 1 ≤ sizeLine; omega, fun q hq => ?_⟩
        have s5 := same_upd (o := .lst [V.str "without"]) hq
        refine ⟨.list (((ws.drop a').take 1).map PyData.str), .list ((["without"] : List Str).map PyData.str), .lst (SqL.of (s5 _ _ e4)) (dpStrs _ _ _), .lst (SqL.of upd_same) (dpStrs _ _ (["without"] : List Str)), plainStrs _, plainStrs _, by simp only [PyData.depth, depthStrs]; decide, _, rfl, ?_⟩
        rw [eqv_one]
        generalize upd H4 q (.lst [V.str "without"]) = H5 at s5 ⊢
        have s35 := s4.trans s5
        have s05 := s3.trans s35
        have e5 := s35 _ _ e3
        have dx5 := dx.sameF s35
        have p05 := p03.same s35
        have pt5 := pt3.same s35
        by_cases z : ws[a']? = some ("without" : Str)
        · rw [decide_eq_true z]
          have lt := get_lt z
          refine iteT ⟨fun σ' H' => ∃ m', m' < m ∧ Wd D c m' σ' H', fun _ _ z => z, ?_⟩
          refine ⟨_, rfl, _, rfl, _, _, rfl, rfl, l, ws, a' + 1, rfl, s05 _ _ hl, sm, by omega, fun v5 H6 s6 an5 => ?_⟩
          have an5 : ansA K (mapR useR (usT ws (a' + 1))) v5 H6 := by
            have e : ents useφ ws 3 (a' + 1) = mapR useR (ents useT ws 3 (a' + 1)) := ents_g useT useR ws (by decide) (a' + 1)
            rw [e] at an5
            exact an5
          have s06 := s05.trans s6
          have e6 := s6 _ _ e5
          have dx6 := dx5.sameF s6
          have p06 := p05.same s6
          have pt6 := pt5.same s6
          refine ⟨_, rfl, rfl, _, rfl, ?_⟩
          cases e1 : usT ws (a' + 1) with
          | none =>
            have vn := an5.no e1
            subst vn
            refine if_as (decide_eq_true rfl) (iteT ?_)
            exact ⟨D, c, m, a', _, _, _, .non, us', wh', b', wo, xs, eD, fun σ' H' m' lm w => ⟨m', lm, w⟩, rfl, s06, hD0, e6, dx6, lx, la', em, ew, ef', eus', ewh', p06, pt6, z, .inl ⟨by unfold wo1; rw [e1], rfl⟩⟩
          | some r =>
            obtain ⟨us2, b2⟩ := r
            have q5 := an5.pr e1
            obtain ⟨_, bl2, _⟩ := usT_on e1
            obtain ⟨p5, w5, rfl, h5, d5⟩ := id q5
            refine if_as (decide_eq_false fun z => by cases z) (iteF ?_)
            refine ⟨_, rfl, _, rfl, p5, _, _, _, rfl, rfl, h5, rfl, l, ws, b2, rfl, s06 _ _ hl, sm, by omega, fun v6 H7 s7 an6 => ?_⟩
            refine ⟨D, c, m, a', _, _, _, v6, us', wh', b', wo, xs, eD, fun σ' H' m' lm w => ⟨m', lm, w⟩, rfl, s06.trans s7, hD0, s7 _ _ e6, dx6.sameF s7, lx, la', em, ew, ef', eus', ewh', p06.same s7, pt6.same s7, z, ?_⟩
            cases e2 : whT ws b2 with
            | none => exact .inl ⟨by unfold wo1; rw [e1]; dsimp only; rw [e2], an6.no e2⟩
            | some r2 =>
              obtain ⟨wh2, c2⟩ := r2
              exact .inr ⟨us2, wh2, b2, c2, by unfold wo1; rw [e1]; dsimp only; rw [e2], q5.same s7, an6.pr e2⟩
        · rw [decide_eq_false z]
          rw [if_neg z] at st
          rw [st] at ew
          have ew : woT ws c = some (wo, a') := by
            rw [ew]
            show some (wo ++ [], a') = _
            rw [List.append_nil]
          have eb' := body_eq ef' eus' ewh'
          rw [ew] at eb'
          refine iteF ?_
          obtain ⟨q0, w0, rfl, h0, d0⟩ := p05
          obtain ⟨q3, w3, rfl, h3, d3⟩ := pt5
          refine ⟨_, rfl, q0, _, _, _, rfl, rfl, h0, rfl, ?_⟩
          refine ⟨_, rfl, q3, _, _, _, rfl, rfl, h3, rfl, ?_⟩
          refine ⟨_, rfl, D, _, rfl, SqL.of e5, fun u ob hu2 ho => ?_⟩
          have dt := dx5.tupF hu2 ho
          have s6 := same_upd (o := .frz ob (.tup xs)) hu2
          generalize upd H5 u (.frz ob (.tup xs)) = H6 at dt s6 ⊢
          refine ⟨_, rfl, by show 4 ≤ sizeLine; omega, fun r oc hr' hc => ?_⟩
          have s7 := same_upd (o := .frz oc (.tup [w0, w3, .ref u, .int (a' : Int)])) hr'
          show D0.rt _ _
          rw [eD]
          refine k _ _ ((s05.trans s6).trans s7) ?_
          rw [eb']
          exact ⟨r, w0, w3, .ref u, rfl, .inl (.inr ⟨oc, upd_same⟩), d0.sameF (s6.trans s7), d3.sameF (s6.trans s7), dt.sameF s7⟩
    · obtain ⟨eD, vs0, rfl, s1, an⟩ := g1
      refine ⟨_, rfl, rfl, _, rfl, ?_⟩
      by_cases z : ws[a]? = some ("from" : Str)
      · have eR : Rs = usT ws (a + 1) := if_pos z
        rw [eR] at an
        cases e1 : usT ws (a + 1) with
        | none =>
          have vn := an.no e1
          subst vn
          refine if_as (decide_eq_true rfl) (iteT ?_)
          exact ⟨eD, _, .non, rfl, s1, .inl ⟨body_no2 z e1, rfl⟩⟩
        | some r =>
          obtain ⟨us2, b2⟩ := r
          have q5 := an.pr e1
          obtain ⟨_, bl2, _⟩ := usT_on e1
          obtain ⟨p5, w5, rfl, h5, d5⟩ := id q5
          refine if_as (decide_eq_false fun z => by cases z) (iteF ?_)
          refine ⟨_, rfl, _, rfl, p5, _, _, _, rfl, rfl, h5, rfl, l, ws, b2, rfl, s1 _ _ hl, sm, by omega, fun v6 H7 s7 an6 => ?_⟩
          refine ⟨eD, _, v6, rfl, s1.trans s7, ?_⟩
          cases e2 : whT ws b2 with
          | none => exact .inl ⟨body_no3 z e1 e2, an6.no e2⟩
          | some r2 =>
            obtain ⟨wh2, c2⟩ := r2
            exact .inr ⟨us2, wh2, b2, c2, z, e1, e2, q5.same s7, an6.pr e2⟩
      · have eR : Rs = none := if_neg z
        rw [eR] at an
        have vn := an.no rfl
        subst vn
        refine if_as (decide_eq_true rfl) (iteT ?_)
        exact ⟨eD, _, .non, rfl, s1, .inl ⟨body_no1 z, rfl⟩⟩
    · refine ⟨_, rfl, _, rfl, _, rfl, _, rfl, _, _, rfl, rfl, _, rfl, l, _, rfl, SqL.of hl, fun p hp => ?_⟩
      rw [cut_one]
      have s4 := same_upd (o := .lst (((ws.drop a).take 1).map V.str)) hp
      have e4 : upd H p (.lst (((ws.drop a).take 1).map V.str)) p = some (.lst (((ws.drop a).take 1).map V.str)) := upd_same
      generalize upd H p (.lst (((ws.drop a).take 1).map V.str)) = H4 at s4 e4 ⊢
      refine ⟨by show 1 ≤ sizeLine; omega, fun q hq => ?_⟩
      have s5 := same_upd (o := .lst [V.str "from"]) hq
      refine ⟨.list (((ws.drop a).take 1).map PyData.str), .list ((["from"] : List Str).map PyData.str), .lst (SqL.of (s5 _ _ e4)) (dpStrs _ _ _), .lst (SqL.of upd_same) (dpStrs _ _ (["from"] : List Str)), plainStrs _, plainStrs _, by simp only [PyData.depth, depthStrs]; decide, _, rfl, ?_⟩
      rw [eqv_one]
      generalize upd H4 q (.lst [V.str "from"]) = H5 at s5 ⊢
      have s05 := s4.trans s5
      by_cases z : ws[a]? = some ("from" : Str)
      · have eR : Rs = usT ws (a + 1) := if_pos z
        rw [decide_eq_true z]
        have lt := get_lt z
        refine iteT ⟨_, rfl, _, rfl, _, _, rfl, rfl, l, ws, a + 1, rfl, s05 _ _ hl, sm, by omega, fun v5 H6 s6 an5 => ?_⟩
        refine ⟨rfl, v5, rfl, s05.trans s6, ?_⟩
        rw [eR]
        have e : ents useφ ws 3 (a + 1) = mapR useR (ents useT ws 3 (a + 1)) := ents_g useT useR ws (by decide) (a + 1)
        rw [e] at an5
        exact an5
      · have eR : Rs = none := if_neg z
        rw [decide_eq_false z]
        refine iteF ⟨rfl, .non, rfl, s05, ?_⟩
        rw [eR]
        rfl
end
end Vm
/-! the law reads: selects -/
namespace Vm
open PySem PySem.Spec PyProof.Rows L2 TL
abbrev sSelIn : Stmt := top 64
def selA (K : PySem.W.Frag) (r : Option ((Bd × List Str) × Nat)) (v : V) (H : Hp) : Prop := match r with
  | none => v = .non
  | some (p, c) => prA K H v (selR p.1 p.2) 5 c
def spSelIn (K : PySem.W.Frag) : Sp := fun vs H Q _ => ∃ (l : Addr) (ws : List Str) (a : Nat), vs = [.ref l, .int (a : Int)] ∧ H l = some (.lst (ws.map V.str)) ∧ SmQ ws ∧ a ≤ ws.length + 2 ∧ ∀ v H', Same H H' → selA K (selT ws a) v H' → Q v H'
section
variable {P : Program} {w : World} {K : PySem.W.Frag} {mg : Str → Option Value} {base : Heap} {fEn fCl fLs : Addr}
abbrev nmSelIn : List Str := ["_law_words", "_law_at", "_law_some", "_law_kept"]
theorem scSelIn : FnScope nmSelIn ["_law_words", "_law_at"] (defScope sSelIn) := ⟨rfl, rfl, rfl, by decide +kernel, rfl, by decide +kernel, by decide +kernel⟩
theorem ok_selin {f : Addr} {fd fdE fdL : FuncData} (F : Fun K "_law_select_in" "_law_select_in" sSelIn f fd)
    (cL : Calls K mg "_law_lists" fLs) (GL : FnOk P w K mg base CX0 6 fLs fdL ["_law_words", "_law_at"] (spLists K)) (bL : Binds K fdL ["_law_words", "_law_at"] [])
    (cE : Calls K mg "_law_entries" fEn) (GE : FnOk P w K mg base CX0 4 fEn fdE ["_law_words", "_law_at", "_law_size", "_law_entry_in"] (spEnts K fCl colφ 1)) (bE : Binds K fdE ["_law_words", "_law_at", "_law_size", "_law_entry_in"] [])
    (cC : Calls K mg "_law_column_in" fCl) :
    FnOk P w K mg base CX0 7 f fd ["_law_words", "_law_at"] (spSelIn K) := by
  refine F.ok scSelIn (fun vs H Q E h => ?_) (fun cdv A outer s H vs Q E hr h => ?_)
  · obtain ⟨l, ws, a, rfl, _⟩ := h
    rfl
  · obtain ⟨l, ws, a, rfl, hl, sm, la, k⟩ := h
    have many := sm.many
    have big : sizeLine > 1000000 := by decide
    have hr4 : Room 4 _ := hr.mono (by decide)
    have hu : (A.deeper (PyProof.Rows.envOfC "_law_select_in" (defScope sSelIn) s.heap.objs.size f cdv)).units + 8 < cLine := by
      have := hr.units
      omega
    refine ⟨_, pss_cons (ps_set (i := 2) scSelIn.nd rfl (Or.inl rfl) (pe_call GL hr rfl cL.g cL.k bL .nil pass0 (pa_cons (pv 0) (pa_cons (pv 1) pa_nil))))
      (pss_cons (ps_if (PW.pt (pw_or (pt_cmpR op_isN (pv 2) pe_non (by rfl)) (pw_or1 (pt_cmpR (op_neP hu) (pe_slice sl_list (pv 0) (po_some (pe_ix ix_tup (pv 2) pe_int (fun _ _ => rfl))) (po_some (pe_op op_add (pe_ix ix_tup (pv 2) pe_int (fun _ _ => rfl)) pe_int))) (pe_lst (pa_cons pe_str pa_nil)) (nomark _))))) (pss_one (ps_ret pe_non)) pss_nil)
      (pss_cons (ps_set (i := 3) scSelIn.nd rfl (Or.inl rfl) (pe_call GE hr4 rfl cE.g cE.k bE .nil pass0 (pa_cons (pv 0) (pa_cons (pe_op op_add (pe_ix ix_tup (pv 2) pe_int (fun _ _ => rfl)) pe_int) (pa_cons pe_int (pa_cons (pe_glob (v := .ref fCl) (by rfl) cC.g rfl) pa_nil))))))
      (pss_one (ps_ret (pe_ifExp (pt_cmpR op_isN (pv 3) pe_non (by rfl)) pe_non (pe_tupF (pa_cons (pe_tupF (pa_cons (pe_ix ix_tup (pv 2) pe_int (fun _ _ => rfl)) (pa_cons (pe_ix ix_tup (pv 3) pe_int (fun _ _ => rfl)) (pa_cons (pe_ix ix_tup (pv 2) pe_int (fun _ _ => rfl)) (pa_cons (pe_ix ix_tup (pv 2) pe_int (fun _ _ => rfl)) pa_nil))))) (pa_cons (pe_ix ix_tup (pv 3) pe_int (fun _ _ => rfl)) pa_nil)))))))), ?_⟩
    refine ⟨_, rfl, _, rfl, l, ws, a, rfl, hl, sm, la, fun v2 H1 s1 an => ?_⟩
    refine ⟨_, rfl, rfl, _, rfl, ?_⟩
    cases eb : bodyT ws a with
    | none =>
      rw [eb] at an
      have vn : v2 = .non := an
      subst vn
      refine if_as (decide_eq_true rfl) (iteT (iteT (k _ _ s1 ?_)))
      unfold selT
      rw [eb]
      rfl
    | some r =>
      obtain ⟨b, c⟩ := r
      rw [eb] at an
      obtain ⟨p, v1, v3, v4, rfl, hp, d1, d3, d4⟩ := an
      have lc : c ≤ ws.length := by
        unfold bodyT at eb
        split at eb
        · cases e1 : wo1 ws (a + 1) with
          | none =>
            rw [e1] at eb
            cases eb
          | some r =>
            obtain ⟨pp, j⟩ := r
            rw [e1] at eb
            dsimp only at eb
            obtain ⟨_, j2, _⟩ := wo1_on e1
            cases e2 : woT ws j with
            | none =>
              rw [e2] at eb
              cases eb
            | some r2 =>
              obtain ⟨wo, e⟩ := r2
              rw [e2] at eb
              have eb := Option.some.inj eb
              injection eb with _ eb
              subst eb
              exact (woT_on _ j2 (Nat.lt_succ_self _) e2).2
        · cases eb
      refine if_as (decide_eq_false fun z => by cases z) (iteF ?_)
      refine ⟨_, rfl, _, rfl, p, _, _, _, rfl, rfl, hp, rfl, _, rfl, ?_⟩
      refine ⟨_, rfl, p, _, _, _, rfl, rfl, hp, rfl, _, _, rfl, rfl, _, rfl, l, _, rfl, SqL.of (s1 _ _ hl), fun q hq => ?_⟩
      rw [cut_one]
      have s2 := same_upd (o := .lst (((ws.drop c).take 1).map V.str)) hq
      have e2 : upd H1 q (.lst (((ws.drop c).take 1).map V.str)) q = some (.lst (((ws.drop c).take 1).map V.str)) := upd_same
      generalize upd H1 q (.lst (((ws.drop c).take 1).map V.str)) = H2 at s2 e2 ⊢
      refine ⟨by show 1 ≤ sizeLine; omega, fun u hu2 => ?_⟩
      have s3 := same_upd (o := .lst [V.str "keep"]) hu2
      refine ⟨.list (((ws.drop c).take 1).map PyData.str), .list ((["keep"] : List Str).map PyData.str), .lst (SqL.of (s3 _ _ e2)) (dpStrs _ _ _), .lst (SqL.of upd_same) (dpStrs _ _ (["keep"] : List Str)), plainStrs _, plainStrs _, by simp only [PyData.depth, depthStrs]; decide, _, rfl, ?_⟩
      rw [eqv_one]
      generalize upd H2 u (.lst [V.str "keep"]) = H3 at s3 ⊢
      have s13 := s2.trans s3
      have s03 := s1.trans s13
      have hp3 : SqT K H3 p [v1, v3, v4, .int (c : Int)] := sameT s13 hp
      by_cases z : ws[c]? = some ("keep" : Str)
      · rw [decide_eq_true z]
        have lt := get_lt z
        have ek : keepT ws c = ents colT ws 1 (c + 1) := if_pos z
        refine iteF ?_
        refine ⟨_, rfl, _, rfl, p, _, _, _, rfl, rfl, hp3, rfl, _, _, rfl, rfl, l, ws, c + 1, rfl, s03 _ _ hl, sm, by omega, fun vk H4 s4 an4 => ?_⟩
        have an4 : ansA K (mapR Tr.str (ents colT ws 1 (c + 1))) vk H4 := by
          have e : ents colφ ws 1 (c + 1) = mapR Tr.str (ents colT ws 1 (c + 1)) := ents_g colT Tr.str ws (by decide) (c + 1)
          rw [e] at an4
          exact an4
        refine ⟨_, rfl, rfl, _, rfl, ?_⟩
        cases e1 : ents colT ws 1 (c + 1) with
        | none =>
          have vn := an4.no e1
          subst vn
          refine if_as (decide_eq_true rfl) (iteT (k _ _ (s03.trans s4) ?_))
          unfold selT
          rw [eb]
          dsimp only
          rw [ek, e1]
          rfl
        | some r =>
          obtain ⟨ks, e⟩ := r
          obtain ⟨p4, w4, rfl, h4, d5⟩ := an4.pr e1
          refine if_as (decide_eq_false fun z => by cases z) (iteF ?_)
          have hp4 := sameT s4 hp3
          refine ⟨_, rfl, p, _, _, _, rfl, rfl, hp4, rfl, ?_⟩
          refine ⟨_, rfl, p4, _, _, _, rfl, rfl, h4, rfl, ?_⟩
          refine ⟨_, rfl, p, _, _, _, rfl, rfl, hp4, rfl, ?_⟩
          refine ⟨_, rfl, p, _, _, _, rfl, rfl, hp4, rfl, ?_⟩
          refine ⟨by show 4 ≤ sizeLine; omega, fun x o hx ho => ?_⟩
          have s14 := s13.trans s4
          have dd : FDs K H4 [v1, w4, v3, v4] [usR b.us, csR ks, whR b.wh, woR b.wo] 4 := .cons ((d1.sameF s14).lvl (by decide)) (.cons (d5.lvl (by decide)) (.cons ((d3.sameF s14).lvl (by decide)) (.cons (d4.sameF s14) .nil)))
          have dt := dd.tupF hx ho
          have s5 := same_upd (o := .frz o (.tup [v1, w4, v3, v4])) hx
          have h45 := sameT s5 h4
          show tCons _ _ _ (upd H4 x (.frz o (.tup [v1, w4, v3, v4]))) _
          generalize upd H4 x (.frz o (.tup [v1, w4, v3, v4])) = H5 at dt s5 h45 ⊢
          refine ⟨_, rfl, p4, _, _, _, rfl, rfl, h45, rfl, ?_⟩
          refine ⟨by show 2 ≤ sizeLine; omega, fun y o2 hy ho2 => ?_⟩
          have s6 := same_upd (o := .frz o2 (.tup [.ref x, .int (e : Int)])) hy
          refine k _ _ (((s03.trans s4).trans s5).trans s6) ?_
          unfold selT
          rw [eb]
          dsimp only
          rw [ek, e1]
          exact ⟨y, .ref x, rfl, .inl (.inr ⟨o2, upd_same⟩), dt.sameF s6⟩
      · rw [decide_eq_false z]
        refine iteT (k _ _ s03 ?_)
        unfold selT
        rw [eb]
        dsimp only
        rw [show keepT ws c = none from if_neg z]
        rfl
end
end Vm
/-! the law reads: groups -/
namespace Vm
open PySem PySem.Spec PyProof.Rows L2 TL
abbrev sGrpIn : Stmt := top 65
theorem join_one (ws : List Str) (a : Nat) : Txt.join "" ((ws.drop a).take 1) = upW ws a := by
  rw [take1]
  unfold upW
  refine ext_tl ?_
  rw [join_eq, tl_join]
  cases ws[a]? <;> rfl
theorem join_fits {ws : List Str} (sm : SmQ ws) (a : Nat) : (((ws.drop a).take 1).map (·.length)).sum + ((ws.drop a).take 1).length * ("" : Str).length ≤ 16777216 := by
  rw [take1]
  cases e : ws[a]? with
  | none => decide
  | some x =>
    have l := (sm.wd (List.mem_of_getElem? e)).len
    have z : ("" : Str).length = 0 := by decide
    show x.length + 0 + 1 * ("" : Str).length ≤ 16777216
    rw [z]
    omega
theorem up_wd {ws : List Str} (sm : SmQ ws) (a : Nat) : WdOk (upW ws a) := by
  unfold upW
  cases e : ws[a]? with
  | none =>
    have e1 : tl ((none : Option Str).getD "") = [] := by decide +kernel
    have e2 : numW ((none : Option Str).getD "") = false := by decide +kernel
    refine ⟨by decide, fun c m => ?_, fun h => ?_⟩
    · rw [e1] at m
      cases m
    · rw [e2] at h
      cases h
  | some x => exact sm.wd (List.mem_of_getElem? e)
theorem up_col {ws : List Str} {a : Nat} (h : colB (upW ws a) = true) : ∃ x, ws[a]? = some x ∧ upW ws a = x := by
  unfold upW at h ⊢
  cases e : ws[a]? with
  | none =>
    rw [e] at h
    rw [show colB ((none : Option Str).getD "") = false from by decide +kernel] at h
    cases h
  | some x => exact ⟨x, rfl, rfl⟩
theorem cut_two (ws : List Str) (a : Nat) : cutV (ws.map V.str) (some ((a : Int) + 1)) (some ((a : Int) + 2)) = ((ws.drop (a + 1)).take 1).map V.str := by
  have e1 : (a : Int) + 1 = ((a + 1 : Nat) : Int) := by omega
  have e2 : (a : Int) + 2 = ((a + 1 : Nat) : Int) + 1 := by omega
  rw [e2, e1]
  exact cut_one ws (a + 1)
def optV : Option Str → V
  | none => .non
  | some x => .str x
def grpR (b : Bd) (p : List Str × Option Str × Option Str × List Bnd) : Tr := .tup [usR b.us, csR p.1, whR b.wh, woR b.wo, optR p.2.1, optR p.2.2.1, hvR p.2.2.2]
def grpE (ws : List Str) (b : Bd) (r : Option ((List Str × Option Str × Option Str × List Bnd) × Nat)) : Tr := match r with
  | none => .non
  | some (p, e) => if e = ws.length then grpR b p else .non
def spGrpIn (K : PySem.W.Frag) : Sp := fun vs H Q _ => ∃ (l p : Addr) (ws : List Str) (b : Bd) (c : Nat) (v1 v2 v3 : V), vs = [.ref l, .ref p] ∧ H l = some (.lst (ws.map V.str)) ∧ SmQ ws ∧ c ≤ ws.length ∧ SqT K H p [v1, v2, v3, .int (c : Int)] ∧ FD K H v1 (usR b.us) 2 ∧ FD K H v2 (whR b.wh) 2 ∧ FD K H v3 (woR b.wo) 4 ∧
  ∀ v H', Same H H' → FD K H' v (grpE ws b (grpT ws (c + 1))) 5 → Q v H'
/-- how far the two words are -/
def sgl (ws : List Str) (b0 : Nat) : Nat → Nat → List (Option Str) → Prop
  | 0, a, os => os = [] ∧ a = b0
  | 1, a, os => ∃ l, oneT "least" ws b0 = some (l, a) ∧ os = [l]
  | _, a, os => ∃ l a1 g, oneT "least" ws b0 = some (l, a1) ∧ oneT "greatest" ws a1 = some (g, a) ∧ os = [l, g]
def sglW : Nat → Str
  | 0 => "least"
  | _ => "greatest"
theorem sgl_step {ws : List Str} {b0 i a a' : Nat} {os : List (Option Str)} {o : Option Str} (hi : i < 2) (h : sgl ws b0 i a os) (e : oneT (sglW i) ws a = some (o, a')) : sgl ws b0 (i + 1) a' (os ++ [o]) := by
  match i, hi with
  | 0, _ =>
    obtain ⟨rfl, rfl⟩ := h
    exact ⟨o, e, rfl⟩
  | 1, _ =>
    obtain ⟨l, e1, rfl⟩ := h
    exact ⟨l, a, o, e1, e, rfl⟩
theorem sgl_bad {ws : List Str} {s b0 i a : Nat} {y : List Str} {os : List (Option Str)} (by0 : byT ws s = some (y, b0)) (hi : i < 2) (h : sgl ws b0 i a os) (e : oneT (sglW i) ws a = none) : grpT ws s = none := by
  match i, hi with
  | 0, _ =>
    obtain ⟨rfl, rfl⟩ := h
    exact grp2 by0 e
  | 1, _ =>
    obtain ⟨l, e1, rfl⟩ := h
    exact grp3 by0 e1 e
theorem set_last {α : Type} : ∀ (xs : List α) (v y : α), (xs ++ [v]).set xs.length y = xs ++ [y]
  | [], _, _ => rfl
  | x :: r, v, y => congrArg (x :: ·) (set_last r v y)
theorem one_bad {w : Str} {ws : List Str} {a : Nat} (h : ws[a]? = some w) (c : colB (upW ws (a + 1)) = false) : oneT w ws a = none := by
  cases e : ws[a + 1]? with
  | none => exact oneT_end h e
  | some x =>
    refine oneT_bad h e ?_
    unfold upW at c
    rw [e] at c
    exact c
theorem one_mem {w : Str} {ws : List Str} {a a' : Nat} {o : Option Str} {x : Str} (h : oneT w ws a = some (o, a')) (e : o = some x) : x ∈ ws := by
  unfold oneT at h
  split at h
  · cases q : ws[a + 1]? with
    | none =>
      rw [q] at h
      cases h
    | some c =>
      rw [q] at h
      dsimp only at h
      split at h
      · have h := Option.some.inj h
        injection h with h1 _
        rw [e] at h1
        rw [← Option.some.inj h1]
        exact List.mem_of_getElem? q
      · cases h
  · have h := Option.some.inj h
    injection h with h1 _
    rw [e] at h1
    cases h1
theorem opt_dp {K : PySem.W.Frag} {H : Hp} {w : Str} {ws : List Str} {a a' n : Nat} {o : Option Str} (sm : SmQ ws) (h : oneT w ws a = some (o, a')) : FD K H (optV o) (optR o) n := by
  cases o with
  | none => exact .non
  | some x => exact (sm.wd (one_mem h rfl)).dp
section
variable {P : Program} {w : World} {K : PySem.W.Frag} {mg : Str → Option Value} {base : Heap} {fEn fCl fBn fIc : Addr}
abbrev nmGrpIn : List Str := ["_law_words", "_law_some", "_law_at", "_law_by", "_law_single", "_law_word", "_law_bounds"]
theorem scGrpIn : FnScope nmGrpIn ["_law_words", "_law_some"] (defScope sGrpIn) := ⟨rfl, rfl, rfl, by decide +kernel, rfl, by decide +kernel, by decide +kernel⟩
theorem ok_grpin {f : Addr} {fd fdC fdB fdI : FuncData} (F : Fun K "_law_groups_in" "_law_groups_in" sGrpIn f fd) (N : TxtN K mg)
    (cE : Calls K mg "_law_entries" fEn) (GC : FnOk P w K mg base CX0 4 fEn fdC ["_law_words", "_law_at", "_law_size", "_law_entry_in"] (spEnts K fCl colφ 1)) (GB : FnOk P w K mg base CX0 4 fEn fdC ["_law_words", "_law_at", "_law_size", "_law_entry_in"] (spEnts K fBn bndφ 3)) (bE : Binds K fdC ["_law_words", "_law_at", "_law_size", "_law_entry_in"] [])
    (cC : Calls K mg "_law_column_in" fCl) (cB : Calls K mg "_law_bound_in" fBn)
    (cI : Calls K mg "_law_is_column" fIc) (GI : FnOk P w K mg base CX0 2 fIc fdI ["_law_it"] spCol) (bI : Binds K fdI ["_law_it"] []) :
    FnOk P w K mg base CX0 5 f fd ["_law_words", "_law_some"] (spGrpIn K) := by
  refine F.ok scGrpIn (fun vs H Q E h => ?_) (fun cdv A outer s H vs Q E hr h => ?_)
  · obtain ⟨l, p, ws, b, c, v1, v2, v3, rfl, _⟩ := h
    rfl
  · obtain ⟨l, p, ws, b, c, v1, v2, v3, rfl, hl, sm, lc, hp, d1, d2, d3, k⟩ := h
    have many := sm.many
    have big : sizeLine > 1000000 := by decide
    have hr2 : Room 2 _ := hr.mono (by decide)
    have hu : (A.deeper (PyProof.Rows.envOfC "_law_groups_in" (defScope sGrpIn) s.heap.objs.size f cdv)).units + 8 < cLine := by
      have := hr.units
      omega
    let G1 : TS := fun D0 σ H1 => D0.rt = Q ∧ ∃ (D : Addr) (vy : V) (y : List Str) (b0 b1 : Nat), σ = [some (.ref l), some (.ref p), some (.int (b0 : Int)), some vy, some (.ref D), none, none] ∧ Same H H1 ∧ H D = none ∧ H1 D = some (.lst []) ∧ prA K H1 vy (csR y) 2 b1 ∧ byT ws (c + 1) = some (y, b0)
    let G2 : TS := fun D0 σ H1 => D0.rt = Q ∧ ∃ (D : Addr) (vy : V) (v5 : Option V) (y : List Str) (b0 b1 a2 : Nat) (os : List (Option Str)), σ = [some (.ref l), some (.ref p), some (.int (a2 : Int)), some vy, some (.ref D), v5, none] ∧ Same H H1 ∧ H D = none ∧ H1 D = some (.lst (os.map optV)) ∧ prA K H1 vy (csR y) 2 b1 ∧ byT ws (c + 1) = some (y, b0) ∧ sgl ws b0 2 a2 os ∧ a2 ≤ ws.length + 3
    let G3 : TS := fun D0 σ H1 => D0.rt = Q ∧ ∃ (D : Addr) (vy vb : V) (v5 : Option V) (y : List Str) (b0 b1 a2 : Nat) (os : List (Option Str)), σ = [some (.ref l), some (.ref p), some (.int (a2 : Int)), some vy, some (.ref D), v5, some vb] ∧ Same H H1 ∧ H D = none ∧ H1 D = some (.lst (os.map optV)) ∧ prA K H1 vy (csR y) 2 b1 ∧ byT ws (c + 1) = some (y, b0) ∧ sgl ws b0 2 a2 os ∧
      ((havT ws a2 = none ∧ vb = .non) ∨ ∃ h e, havT ws a2 = some (h, e) ∧ prA K H1 vb (hvR h) 2 e)
    refine ⟨_, pss_cons (ps_par3 (i := 2) (j := 3) (l := 4) rfl scGrpIn.nd rfl rfl rfl (by decide) (by decide) (by decide) rfl rfl rfl (pa_cons (pe_op op_add (pe_ix ix_tup (pv 1) pe_int (fun _ _ => rfl)) pe_int) (pa_cons (pe_tupF (pa_cons (pe_tupF pa_nil) (pa_cons (pe_op op_add (pe_ix ix_tup (pv 1) pe_int (fun _ _ => rfl)) pe_int) pa_nil))) (pa_cons (pe_lst pa_nil) pa_nil))) rfl)
      (pss_cons (ps_if (pt_cmpR op_in_sign pe_str (pe_join pe_str (pe_slice sl_list (pv 0) (po_some (pv 2)) (po_some (pe_op op_add (pv 2) pe_int)))) (by rfl))
        (pss_cons (ps_set (i := 3) scGrpIn.nd rfl (Or.inl rfl) (pe_call GC hr rfl cE.g cE.k bE .nil pass0 (pa_cons (pv 0) (pa_cons (pv 2) (pa_cons pe_int (pa_cons (pe_glob (v := .ref fCl) (by rfl) cC.g rfl) pa_nil))))))
        (pss_cons (ps_if (pt_cmpR op_isN (pv 3) pe_non (by rfl)) (pss_one (ps_ret pe_non)) pss_nil)
        (pss_one (ps_set (i := 2) scGrpIn.nd rfl (Or.inl rfl) (pe_ix ix_tup (pv 3) pe_int (fun _ _ => rfl)))))) pss_nil)
      (pss_imp (G := G1) (pss_cons (ps_for PassesOwn.never rfl (pi_tup (pe_tupF (pa_cons pe_str (pa_cons pe_str pa_nil)))) (pg_name (i := 5) scGrpIn.nd rfl (Or.inl rfl))
        (pss_cons (ps_expr (pe_bm PySem.F.plainAttrs_list PySem.F.slot_list_append PySem.F.type_list_append mt_append (pv 4) (pa_cons pe_non pa_nil)))
        (pss_one (ps_if (pt_cmpR (op_eqP hu) (pe_slice sl_list (pv 0) (po_some (pv 2)) (po_some (pe_op op_add (pv 2) pe_int))) (pe_lst (pa_cons (pv 5) pa_nil)) (nomark _))
          (pss_cons (ps_if (pt_not (pt_val (pe_call GI hr2 rfl cI.g cI.k bI .nil pass0 (pa_cons (pe_join pe_str (pe_slice sl_list (pv 0) (po_some (pe_op op_add (pv 2) pe_int)) (po_some (pe_op op_add (pv 2) pe_int)))) pa_nil)))) (pss_one (ps_ret pe_non)) pss_nil)
          (pss_one (ps_asg (pe_tupF (pa_cons (pe_ix ix_list (pv 0) (pe_op op_add (pv 2) pe_int) (fun _ _ => rfl)) (pa_cons (pe_op op_add (pv 2) pe_int) pa_nil))) (pg_tup rfl (pgs_cons (pg_sub (pv 4) (pe_un un_neg pe_int) set_list) (pgs_cons (pg_name (i := 2) scGrpIn.nd rfl (Or.inl rfl)) pgs_nil)))))) pss_nil))))
      (pss_imp (G := G2) (pss_cons (ps_set (i := 6) scGrpIn.nd rfl (Or.inl rfl) (pe_tupF (pa_cons (pe_tupF pa_nil) (pa_cons (pv 2) pa_nil))))
      (pss_cons (ps_if (pt_cmpR (op_eqP hu) (pe_slice sl_list (pv 0) (po_some (pv 2)) (po_some (pe_op op_add (pv 2) pe_int))) (pe_lst (pa_cons pe_str pa_nil)) (nomark _))
        (pss_one (ps_set (i := 6) scGrpIn.nd rfl (Or.inl rfl) (pe_call GB hr rfl cE.g cE.k bE .nil pass0 (pa_cons (pv 0) (pa_cons (pe_op op_add (pv 2) pe_int) (pa_cons pe_int (pa_cons (pe_glob (v := .ref fBn) (by rfl) cB.g rfl) pa_nil))))))) pss_nil)
      (pss_imp (G := G3) (pss_cons (ps_if (PW.pt (pw_or (pt_cmpR op_isN (pv 6) pe_non (by rfl)) (pw_or1 (pt_cmpR op_ne (pe_ix ix_tup (pv 6) pe_int (fun _ _ => rfl)) (pe_callB call_len_seq (by rfl) N.len (by decide +kernel) (pa_cons (pv 0) pa_nil)) (nomark _))))) (pss_one (ps_ret pe_non)) pss_nil)
      (pss_one (ps_ret (pe_tupF (pa_cons (pe_ix ix_tup (pv 1) pe_int (fun _ _ => rfl)) (pa_cons (pe_ix ix_tup (pv 3) pe_int (fun _ _ => rfl)) (pa_cons (pe_ix ix_tup (pv 1) pe_int (fun _ _ => rfl)) (pa_cons (pe_ix ix_tup (pv 1) pe_int (fun _ _ => rfl)) (pa_cons (pe_ix ix_list (pv 4) pe_int (fun _ _ => rfl)) (pa_cons (pe_ix ix_list (pv 4) pe_int (fun _ _ => rfl)) (pa_cons (pe_ix ix_tup (pv 6) pe_int (fun _ _ => rfl)) pa_nil)))))))))))
        (fun D0 σ H1 g3 => ?_)))) (fun D0 σ H1 g2 => ?_))) (fun D0 σ H1 g1 => ?_))), ?_⟩
    · obtain ⟨eD, D, vy, vb, v5, y, b0, b1, a2, os, rfl, s1, hD, e1, py, ey, sg, cas⟩ := g3
      have sg : ∃ l a1 g, oneT "least" ws b0 = some (l, a1) ∧ oneT "greatest" ws a1 = some (g, a2) ∧ os = [l, g] := sg
      obtain ⟨lo, a1, go, el, eg, rfl⟩ := sg
      have er := grp4 ey el eg
      refine ⟨_, rfl, rfl, _, rfl, ?_⟩
      rcases cas with ⟨en, rfl⟩ | ⟨h, e, eh, pb⟩
      · refine if_as (decide_eq_true rfl) (iteT (iteT ?_))
        show D0.rt _ _
        rw [eD]
        refine k _ _ s1 ?_
        rw [er, en]
        exact .non
      · obtain ⟨q6, w6, rfl, h6, d6⟩ := pb
        rw [eh] at er
        dsimp only at er
        refine if_as (decide_eq_false fun z => by cases z) (iteF ?_)
        refine ⟨_, rfl, q6, _, _, _, rfl, rfl, h6, rfl, _, rfl, l, _, rfl, .inl (SqL.of (s1 _ _ hl)), rfl, _, rfl, ?_⟩
        rw [List.length_map]
        by_cases z : e = ws.length
        · have z2 : decide (V.int (e : Int) = V.int ((ws.length : Nat) : Int)) = true := decide_eq_true (by rw [z])
          refine if_as (congrArg (!·) z2) (iteF ?_)
          obtain ⟨q3, w3, rfl, h3, d3'⟩ := py
          have hp1 : SqT K H1 p [v1, v2, v3, .int (c : Int)] := sameT s1 hp
          refine ⟨_, rfl, p, _, _, _, rfl, rfl, hp1, rfl, ?_⟩
          refine ⟨_, rfl, q3, _, _, _, rfl, rfl, h3, rfl, ?_⟩
          refine ⟨_, rfl, p, _, _, _, rfl, rfl, hp1, rfl, ?_⟩
          refine ⟨_, rfl, p, _, _, _, rfl, rfl, hp1, rfl, ?_⟩
          refine ⟨_, rfl, D, _, _, _, rfl, rfl, SqL.of e1, rfl, ?_⟩
          refine ⟨_, rfl, D, _, _, _, rfl, rfl, SqL.of e1, rfl, ?_⟩
          refine ⟨_, rfl, q6, _, _, _, rfl, rfl, h6, rfl, ?_⟩
          refine ⟨by show 7 ≤ sizeLine; omega, fun r o hr' ho => ?_⟩
          have dd : FDs K H1 [v1, w3, v2, v3, optV lo, optV go, w6] [usR b.us, csR y, whR b.wh, woR b.wo, optR lo, optR go, hvR h] 4 :=
            .cons ((d1.sameF s1).lvl (by decide)) (.cons (d3'.lvl (by decide)) (.cons ((d2.sameF s1).lvl (by decide)) (.cons (d3.sameF s1) (.cons (opt_dp sm el) (.cons (opt_dp sm eg) (.cons (d6.lvl (by decide)) .nil))))))
          show D0.rt _ _
          rw [eD]
          refine k _ _ (s1.trans (same_upd hr')) ?_
          rw [er]
          unfold grpE
          dsimp only
          rw [if_pos z]
          exact dd.tupF hr' ho
        · have z2 : decide (V.int (e : Int) = V.int ((ws.length : Nat) : Int)) = false := decide_eq_false fun q => z (by have := V.int.inj q; omega)
          refine if_as (congrArg (!·) z2) (iteT ?_)
          show D0.rt _ _
          rw [eD]
          refine k _ _ s1 ?_
          rw [er]
          unfold grpE
          dsimp only
          rw [if_neg z]
          exact .non
    · obtain ⟨eD, D, vy, v5, y, b0, b1, a2, os, rfl, s1, hD, e1, py, ey, sg, la2⟩ := g2
      refine ⟨Nat.zero_le _, fun r o hr' ho => ?_⟩
      have d0 : FDs K H1 [] [] 1 := .nil
      have dr := d0.tupF hr' ho
      have s2 := same_upd (o := .frz o (.tup [])) hr'
      have e2 := s2 _ _ e1
      have py2 := py.same s2
      have s12 := s1.trans s2
      generalize upd H1 r (.frz o (.tup [])) = H2 at dr s2 e2 py2 s12 ⊢
      refine ⟨_, rfl, by show 2 ≤ sizeLine; omega, fun u o2 hu2 ho2 => ?_⟩
      have s3 := same_upd (o := .frz o2 (.tup [.ref r, .int (a2 : Int)])) hu2
      have pu : prA K (upd H2 u (.frz o2 (.tup [.ref r, .int (a2 : Int)]))) (.ref u) (.tup []) 2 a2 := ⟨u, .ref r, rfl, .inl (.inr ⟨o2, upd_same⟩), dr.sameF s3⟩
      have e3 := s3 _ _ e2
      have py3 := py2.same s3
      have s13 := s12.trans s3
      show tSeq _ _ _ _ (upd H2 u (.frz o2 (.tup [.ref r, .int (a2 : Int)])))
      generalize upd H2 u (.frz o2 (.tup [.ref r, .int (a2 : Int)])) = H3 at s3 pu e3 py3 s13 ⊢
      refine ⟨_, rfl, _, rfl, _, rfl, _, rfl, _, _, rfl, rfl, _, rfl, l, _, rfl, SqL.of (s13 _ _ hl), fun q hq => ?_⟩
      rw [cut_one]
      have s4 := same_upd (o := .lst (((ws.drop a2).take 1).map V.str)) hq
      have e4 : upd H3 q (.lst (((ws.drop a2).take 1).map V.str)) q = some (.lst (((ws.drop a2).take 1).map V.str)) := upd_same
      generalize upd H3 q (.lst (((ws.drop a2).take 1).map V.str)) = H4 at s4 e4 ⊢
      refine ⟨by show 1 ≤ sizeLine; omega, fun x hx => ?_⟩
      have s5 := same_upd (o := .lst [V.str "having"]) hx
      refine ⟨.list (((ws.drop a2).take 1).map PyData.str), .list ((["having"] : List Str).map PyData.str), .lst (SqL.of (s5 _ _ e4)) (dpStrs _ _ _), .lst (SqL.of upd_same) (dpStrs _ _ (["having"] : List Str)), plainStrs _, plainStrs _, by simp only [PyData.depth, depthStrs]; decide, _, rfl, ?_⟩
      rw [eqv_one]
      generalize upd H4 x (.lst [V.str "having"]) = H5 at s5 ⊢
      have s35 := s4.trans s5
      have s15 := s13.trans s35
      by_cases z : ws[a2]? = some ("having" : Str)
      · rw [decide_eq_true z]
        have lt := get_lt z
        have eh : havT ws a2 = ents bndT ws 3 (a2 + 1) := if_pos z
        refine iteT ⟨_, rfl, _, rfl, _, _, rfl, rfl, l, ws, a2 + 1, rfl, s15 _ _ hl, sm, by omega, fun v6 H6 s6 an => ?_⟩
        have an : ansA K (mapR bndR (ents bndT ws 3 (a2 + 1))) v6 H6 := by
          have e : ents bndφ ws 3 (a2 + 1) = mapR bndR (ents bndT ws 3 (a2 + 1)) := ents_g bndT bndR ws (by decide) (a2 + 1)
          rw [e] at an
          exact an
        refine ⟨eD, D, vy, v6, v5, y, b0, b1, a2, os, rfl, s15.trans s6, hD, s6 _ _ (s35 _ _ e3), (py3.same s35).same s6, ey, sg, ?_⟩
        cases e1 : ents bndT ws 3 (a2 + 1) with
        | none => exact .inl ⟨eh.trans e1, an.no e1⟩
        | some r =>
          obtain ⟨h, e⟩ := r
          exact .inr ⟨h, e, eh.trans e1, an.pr e1⟩
      · rw [decide_eq_false z]
        refine iteF ⟨eD, D, vy, .ref u, v5, y, b0, b1, a2, os, rfl, s15, hD, s35 _ _ e3, py3.same s35, ey, sg, .inr ⟨[], a2, if_neg z, pu.same s35⟩⟩
    · obtain ⟨eD, D, vy, y, b0, b1, rfl, s1, hD, e1, py, ey⟩ := g1
      have lb0 : b0 ≤ ws.length + 1 := by
        unfold byT at ey
        split at ey
        · exact Nat.le_succ_of_le (ents_on (show 0 < 1 by decide) (Nat.lt_succ_self _) ey).2.1
        · have ey := Option.some.inj ey
          injection ey with _ z
          omega
      refine ⟨by show 2 ≤ sizeLine; omega, fun q o hq ho => ?_⟩
      have s2 := same_upd (o := .frz o (.tup ([("least" : Str), "greatest"].map V.str))) hq
      have e2q : upd H1 q (.frz o (.tup ([("least" : Str), "greatest"].map V.str))) q = some (.frz o (.tup ([("least" : Str), "greatest"].map V.str))) := upd_same
      have e2 := s2 _ _ e1
      have py2 := py.same s2
      have s12 := s1.trans s2
      have nq : q ≠ D := fun z => by
        rw [z, e1] at hq
        cases hq
      refine ⟨q, rfl, ⟨_, .inl (.inr ⟨o, e2q⟩)⟩, for_tup (K := K) (a := q) (xs := [("least" : Str), "greatest"].map V.str) (fun i σ H' => ∃ (a : Nat) (os : List (Option Str)) (v5 : Option V), σ = [some (.ref l), some (.ref p), some (.int (a : Int)), some vy, some (.ref D), v5, none] ∧ Same H H' ∧ H' q = some (.frz o (.tup ([("least" : Str), "greatest"].map V.str))) ∧ H' D = some (.lst (os.map optV)) ∧ prA K H' vy (csR y) 2 b1 ∧ sgl ws b0 i a os ∧ a ≤ ws.length + 1 ∧ os.length = i)
        ⟨b0, [], none, rfl, s12, e2q, e2, py2, ⟨rfl, rfl⟩, lb0, rfl⟩ (fun i σ H' _ ⟨_, _, _, _, _, e, _⟩ => .inl (.inr ⟨o, e⟩)) ?_ ?_⟩
      · rintro i x σ H3 hi ⟨a, os, v5, rfl, s3, e3q, e3, py3, sg, la, lo⟩
        have li : i < 2 := (List.getElem?_eq_some_iff.mp hi).1
        have ex : x = .str (sglW i) := by
          match i, li with
          | 0, _ => exact (Option.some.inj hi).symm
          | 1, _ => exact (Option.some.inj hi).symm
        subst ex
        refine ⟨_, rfl, .inl ⟨rfl, _, SqL.of e3⟩, D, _, _, rfl, rfl, e3, by rw [List.length_map]; omega, ?_⟩
        have nl : NL H3 (upd H3 D (.lst (os.map optV ++ [V.non]))) := fun b u n e => by
          rw [upd_ne fun z => by rw [z, e3] at e; exact n _ (Option.some.inj e).symm]
          exact e
        have s4 : Same H (upd H3 D (.lst (os.map optV ++ [V.non]))) := fun b u e => by
          rw [upd_ne (ne_of_none e hD)]
          exact s3 _ _ e
        have e4 : upd H3 D (.lst (os.map optV ++ [V.non])) D = some (.lst (os.map optV ++ [V.non])) := upd_same
        have e4q : upd H3 D (.lst (os.map optV ++ [V.non])) q = _ := (upd_ne nq).trans e3q
        have py4 := py3.nl nl
        generalize upd H3 D (.lst (os.map optV ++ [V.non])) = H4 at s4 e4 e4q py4 ⊢
        refine ⟨_, rfl, _, rfl, _, rfl, _, rfl, _, _, rfl, rfl, _, rfl, l, _, rfl, SqL.of (s4 _ _ hl), fun r hr' => ?_⟩
        rw [cut_one]
        have s5 := same_upd (o := .lst (((ws.drop a).take 1).map V.str)) hr'
        have e5 : upd H4 r (.lst (((ws.drop a).take 1).map V.str)) r = some (.lst (((ws.drop a).take 1).map V.str)) := upd_same
        generalize upd H4 r (.lst (((ws.drop a).take 1).map V.str)) = H5 at s5 e5 ⊢
        refine ⟨_, rfl, by show 1 ≤ sizeLine; omega, fun u hu2 => ?_⟩
        have s6 := same_upd (o := .lst [V.str (sglW i)]) hu2
        refine ⟨.list (((ws.drop a).take 1).map PyData.str), .list (([sglW i] : List Str).map PyData.str), .lst (SqL.of (s6 _ _ e5)) (dpStrs _ _ _), .lst (SqL.of upd_same) (dpStrs _ _ ([sglW i] : List Str)), plainStrs _, plainStrs _, by simp only [PyData.depth, depthStrs]; decide, _, rfl, ?_⟩
        rw [eqv_one]
        generalize upd H5 u (.lst [V.str (sglW i)]) = H6 at s6 ⊢
        have s46 := s5.trans s6
        have s06 := s4.trans s46
        by_cases z : ws[a]? = some (sglW i)
        · rw [decide_eq_true z]
          refine iteT ?_
          have lt := get_lt z
          have e6 := s46 _ _ e4
          have e6q := s46 _ _ e4q
          have py6 := py4.same s46
          refine ⟨⟨_, rfl⟩, _, rfl, _, rfl, _, _, rfl, rfl, _, rfl, _, rfl, _, _, rfl, rfl, _, rfl, l, _, rfl, SqL.of (s06 _ _ hl), fun u2 hu3 => ?_⟩
          rw [cut_two]
          have s7 := same_upd (o := .lst (((ws.drop (a + 1)).take 1).map V.str)) hu3
          refine ⟨_, u2, _, rfl, rfl, .inl (SqL.of upd_same), join_fits sm (a + 1), ?_⟩
          rw [join_one]
          refine ⟨_, rfl, up_wd sm (a + 1), fun H8 s8 => ⟨_, rfl, ?_⟩⟩
          have s78 := s7.trans s8
          have s08 := s06.trans s78
          cases ec : colB (upW ws (a + 1)) with
          | false =>
            refine iteT ?_
            show D0.rt _ _
            rw [eD]
            refine k _ _ s08 ?_
            rw [sgl_bad ey li sg (one_bad z ec)]
            exact .non
          | true =>
            obtain ⟨x, ex, eux⟩ := up_col ec
            rw [eux] at ec
            have lt1 := get_lt ex
            refine iteF ?_
            have a1 : (a : Int) + 1 = ((a + 1 : Nat) : Int) := by omega
            refine ⟨_, rfl, _, rfl, _, _, rfl, rfl, l, _, _, .str x, rfl, rfl, SqL.of (s08 _ _ hl), ?_, ?_⟩
            · rw [a1]
              exact atI_nat (by rw [List.getElem?_map, ex]; rfl)
            refine ⟨_, rfl, _, _, rfl, rfl, by show 2 ≤ sizeLine; omega, fun y1 o1 hy1 ho1 => ?_⟩
            have s9 := same_upd (o := .frz o1 (.tup [.str x, .int ((a : Int) + 2)])) hy1
            have e9 := s9 _ _ (s78 _ _ e6)
            have e9q := s9 _ _ (s78 _ _ e6q)
            have py9 := (py6.same s78).same s9
            have s09 := s08.trans s9
            have t9 : SqT K (upd H8 y1 (.frz o1 (.tup [.str x, .int ((a : Int) + 2)]))) y1 [.str x, .int ((a : Int) + 2)] := .inl (.inr ⟨o1, upd_same⟩)
            generalize upd H8 y1 (.frz o1 (.tup [.str x, .int ((a : Int) + 2)])) = H9 at s9 e9 e9q py9 s09 t9 ⊢
            have a2 : (a : Int) + 2 = ((a + 2 : Nat) : Int) := by omega
            have lx : ixN (os.map optV ++ [V.non]).length (-1) = some os.length := by
              rw [List.length_append, List.length_map]
              unfold ixN
              rw [if_neg (by decide), if_pos (by show -((os.length + 1 : Nat) : Int) ≤ -1; omega)]
              congr 1
              show (-1 + ((os.length + 1 : Nat) : Int)).toNat = os.length
              omega
            have st9 : (os.map optV ++ [V.non]).set os.length (.str x) = (os ++ [some x]).map optV := by
              have z := set_last (os.map optV) V.non (V.str x)
              rw [List.length_map] at z
              rw [z, List.map_append]
              rfl
            have nl9 : NL H9 (upd H9 D (.lst ((os ++ [some x]).map optV))) := fun b u n e => by
              rw [upd_ne fun z => by rw [z, e9] at e; exact n _ (Option.some.inj e).symm]
              exact e
            refine ⟨y1, _, rfl, t9, rfl, _, _, rfl, _, rfl, _, rfl, D, _, _, _, rfl, rfl, e9, lx, ?_⟩
            rw [st9]
            refine ⟨_, _, rfl, rfl, ?_⟩
            refine ⟨a + 2, os ++ [some x], _, by rw [a2]; rfl, fun b u e => ?_, (upd_ne nq).trans e9q, upd_same, py9.nl nl9, sgl_step li sg (oneT_yes z ex ec), by omega, by rw [List.length_append, lo]; rfl⟩
            rw [upd_ne (ne_of_none e hD)]
            exact s09 _ _ e
        · rw [decide_eq_false z]
          refine iteF ⟨a, os ++ [none], _, rfl, s06, s46 _ _ e4q, ?_, py4.same s46, sgl_step li sg (oneT_no z), la, by rw [List.length_append, lo]; rfl⟩
          rw [List.map_append]
          exact s46 _ _ e4
      · rintro σ H3 ⟨a, os, v5, rfl, s3, e3q, e3, py3, sg, la, lo⟩
        exact ⟨eD, D, vy, v5, y, b0, b1, a, os, rfl, s3, hD, e3, py3, ey, sg, by omega⟩
    · refine ⟨_, rfl, p, _, _, _, rfl, rfl, hp, rfl, _, _, rfl, rfl, ?_⟩
      refine ⟨Nat.zero_le _, fun r o hr' ho => ?_⟩
      have d0 : FDs K H [] [] 1 := .nil
      have dr := d0.tupF hr' ho
      have s2 := same_upd (o := .frz o (.tup [])) hr'
      generalize upd H r (.frz o (.tup [])) = H2 at dr s2 ⊢
      refine ⟨_, rfl, p, _, _, _, rfl, rfl, sameT s2 hp, rfl, _, _, rfl, rfl, ?_⟩
      have c1 : (c : Int) + 1 = ((c + 1 : Nat) : Int) := by omega
      refine ⟨by show 2 ≤ sizeLine; omega, fun u o2 hu2 ho2 => ?_⟩
      have s3 := same_upd (o := .frz o2 (.tup [.ref r, .int ((c : Int) + 1)])) hu2
      have pu : prA K (upd H2 u (.frz o2 (.tup [.ref r, .int ((c : Int) + 1)]))) (.ref u) (csR []) 2 (c + 1) := ⟨u, .ref r, rfl, .inl (.inr ⟨o2, upd_same⟩), dr.sameF s3⟩
      have s23 := s2.trans s3
      generalize upd H2 u (.frz o2 (.tup [.ref r, .int ((c : Int) + 1)])) = H3 at s3 pu s23 ⊢
      refine ⟨Nat.zero_le _, fun D hD => ?_⟩
      have s4 := same_upd (o := .lst []) hD
      have e4 : upd H3 D (.lst []) D = some (.lst []) := upd_same
      have pu4 := pu.same s4
      have s04 := s23.trans s4
      have hD0 := s23.free hD
      generalize upd H3 D (.lst []) = H4 at s4 e4 pu4 s04 ⊢
      refine ⟨_, _, _, rfl, ?_⟩
      refine ⟨⟨_, rfl⟩, _, rfl, _, rfl, _, rfl, _, rfl, _, _, rfl, rfl, _, rfl, l, _, rfl, SqL.of (s04 _ _ hl), fun q hq => ?_⟩
      rw [c1, cut_one]
      have s5 := same_upd (o := .lst (((ws.drop (c + 1)).take 1).map V.str)) hq
      refine ⟨_, q, _, rfl, rfl, .inl (SqL.of upd_same), join_fits sm (c + 1), ?_⟩
      rw [join_one]
      refine ⟨46, upW ws (c + 1), congrArg V.str dot_str, rfl, _, rfl, ?_⟩
      rw [dot_in]
      generalize upd H4 q (.lst (((ws.drop (c + 1)).take 1).map V.str)) = H5 at s5 ⊢
      have s05 := s04.trans s5
      cases ed : dotB (upW ws (c + 1)) with
      | false =>
        exact iteF ⟨rfl, D, .ref u, [], c + 1, c + 1, by rw [← c1]; rfl, s05, hD0, s5 _ _ e4, pu4.same s5, if_neg (by rw [ed]; decide)⟩
      | true =>
        have eb : byT ws (c + 1) = ents colT ws 1 (c + 1) := if_pos ed
        refine iteT ⟨_, rfl, _, rfl, l, ws, c + 1, by rw [← c1]; rfl, s05 _ _ hl, sm, by omega, fun v6 H6 s6 an => ?_⟩
        have an : ansA K (mapR Tr.str (ents colT ws 1 (c + 1))) v6 H6 := by
          have e : ents colφ ws 1 (c + 1) = mapR Tr.str (ents colT ws 1 (c + 1)) := ents_g colT Tr.str ws (by decide) (c + 1)
          rw [e] at an
          exact an
        have s06 := s05.trans s6
        refine ⟨_, rfl, rfl, _, rfl, ?_⟩
        cases e1 : ents colT ws 1 (c + 1) with
        | none =>
          have vn := an.no e1
          subst vn
          refine if_as (decide_eq_true rfl) (iteT (k _ _ s06 ?_))
          rw [grp1 (eb.trans e1)]
          exact .non
        | some r1 =>
          obtain ⟨y, b0⟩ := r1
          have pa := an.pr e1
          obtain ⟨p6, w6, rfl, h6, d6⟩ := id pa
          refine if_as (decide_eq_false fun z => by cases z) (iteF ?_)
          refine ⟨_, rfl, p6, _, _, _, rfl, rfl, h6, rfl, ?_⟩
          exact ⟨rfl, D, .ref p6, y, b0, b0, rfl, s06, hD0, s6 _ _ (s5 _ _ e4), pa, eb.trans e1⟩
end
end Vm
/-! the law reads: firsts -/
namespace Vm
open PySem PySem.Spec PyProof.Rows L2 TL
abbrev sFstIn : Stmt := top 66
section
variable {X : Cx}
/-- data in a tuple of data -/
def rNotInTD (K : PySem.W.Frag) : R2 := fun x y H Q => ∃ d ds, Dp K H x d ∧ Dp K H y (.tuple ds) ∧ d.plain = true ∧ PyData.plainAll ds = true ∧ d.depth ≤ 6 ∧ Q (.bl (!ds.any fun z => PyData.eqv z d)) H
theorem op_notInTD (hu : X.A.units + 8 < cLine) : OpR X (compareOp .NotIn) (rNotInTD X.K) := by
  intro pins s σ H x y v u Q I rx ry h
  obtain ⟨d, ds, hd, he, pd, pe, dep, q⟩ := h
  obtain ⟨as, r1⟩ := Dp.reads I d x v hd rx
  obtain ⟨bs, r2⟩ := Dp.reads I (.tuple ds) y u he ry
  refine SeqAt.notIn_tuple_data r2 r1 pe pd ?_ ⟨.bl _, H, I, rfl, q⟩
  have z : min (PyData.depthAll ds) d.depth ≤ d.depth := Nat.min_le_right _ _
  omega
end
theorem cut_drop (xs : List V) (k : Nat) : cutV xs (some (k : Int)) none = xs.drop k := by
  have e := HT.sIx_nat xs.length 0 k
  unfold cutV
  rw [e]
  show (xs.drop (min k xs.length)).take (xs.length - min k xs.length) = _
  rw [List.take_of_length_le (by rw [List.length_drop]; omega)]
  by_cases h : k ≤ xs.length
  · rw [Nat.min_eq_left h]
  · rw [Nat.min_eq_right (by omega), List.drop_of_length_le (Nat.le_refl _), List.drop_of_length_le (by omega)]
theorem in45 (n : Nat) : inV (.int (n : Int)) [.int 4, .int 5] = (decide (n = 4) || decide (n = 5)) := by
  show (decide ((4 : Int) = (n : Int)) || (decide ((5 : Int) = (n : Int)) || false)) = _
  rw [Bool.or_false, Bool.eq_iff_iff, Bool.or_eq_true, Bool.or_eq_true, decide_eq_true_iff, decide_eq_true_iff, decide_eq_true_iff, decide_eq_true_iff]
  omega
def fstR : Option Qn → Tr
  | some (.fst b k y n f) => .tup [selR b k, .str y, .int n, .bl f]
  | _ => .non
def spFstIn (K : PySem.W.Frag) : Sp := fun vs H Q _ => ∃ (l : Addr) (ws : List Str) (c : Nat) (b : Bd) (k : List Str) (sv : V), vs = [.ref l, sv, .int (c : Int)] ∧ H l = some (.lst (ws.map V.str)) ∧ SmQ ws ∧ c < ws.length ∧ FD K H sv (selR b k) 5 ∧ ∀ v H', Same H H' → FD K H' v (fstR (firstT b k ws c)) 6 → Q v H'
/-- a first's words -/
def fst5 (b : Bd) (k : List Str) : List Str → Option Qn
  | _ :: n :: w :: y :: t => if (t = [] ∨ t = [("falling" : Str)]) ∧ w = "by" ∧ numW n = true ∧ 1 ≤ intW n ∧ colB y = true then some (.fst b k y (intW n) (!t.isEmpty)) else none
  | _ => none
theorem fst_eq (b : Bd) (k : List Str) (ws : List Str) (c : Nat) : firstT b k ws c = fst5 b k (ws.drop c) := by
  have g : ∀ i, ws[c + i]? = (ws.drop c)[i]? := fun i => List.getElem?_drop.symm
  have l : (ws.drop c).length = ws.length - c := List.length_drop
  unfold firstT
  rw [g 1, g 2, g 3, g 4]
  generalize ws.drop c = r at g l
  match r, l with
  | [], _ => rfl
  | [_], _ => rfl
  | [_, _], _ => rfl
  | [_, _, _], _ => rfl
  | x0 :: n :: w :: y :: t, l =>
    show (if numW n = true ∧ 1 ≤ intW n ∧ w = "by" ∧ colB y = true then if t[0]? = some ("falling" : Str) then if c + 5 = ws.length then _ else none else if c + 4 = ws.length then _ else none else none) = if (t = [] ∨ t = [("falling" : Str)]) ∧ w = "by" ∧ numW n = true ∧ 1 ≤ intW n ∧ colB y = true then _ else none
    have ln : t.length + 4 = ws.length - c := l
    by_cases z : numW n = true ∧ 1 ≤ intW n ∧ w = "by" ∧ colB y = true
    · rw [if_pos z]
      match t, ln with
      | [], ln =>
        rw [if_neg (by intro q; cases q), if_pos (show c + 4 = ws.length by have : 0 + 4 = ws.length - c := ln; omega), if_pos ⟨.inl rfl, z.2.2.1, z.1, z.2.1, z.2.2.2⟩]
        rfl
      | [f], ln =>
        have l5 : c + 5 = ws.length := by
          have : 1 + 4 = ws.length - c := ln
          omega
        by_cases ef : f = "falling"
        · rw [if_pos (show ([f] : List Str)[0]? = some ("falling" : Str) from congrArg some ef), if_pos l5, if_pos ⟨.inr (by rw [ef]), z.2.2.1, z.1, z.2.1, z.2.2.2⟩]
          rfl
        · rw [if_neg (show ¬ ([f] : List Str)[0]? = some ("falling" : Str) from fun q => ef (Option.some.inj q)), if_neg (by omega), if_neg (by rintro ⟨q | q, _⟩; cases q; exact ef (List.singleton_inj.mp q))]
      | f :: g :: u, ln =>
        have l6 : u.length + 1 + 1 + 4 = ws.length - c := ln
        rw [if_neg (show ¬ (((f :: g :: u) = [] ∨ (f :: g :: u) = [("falling" : Str)]) ∧ w = "by" ∧ numW n = true ∧ 1 ≤ intW n ∧ colB y = true) from by rintro ⟨q | q, _⟩ <;> cases q)]
        split
        · rw [if_neg (by omega)]
        · rw [if_neg (by omega)]
    · rw [if_neg z, if_neg fun q => z ⟨q.2.2.1, q.2.2.2.1, q.2.1, q.2.2.2.2⟩]
section
variable {P : Program} {w : World} {K : PySem.W.Frag} {mg : Str → Option Value} {base : Heap} {fIn fIc : Addr}
abbrev nmFstIn : List Str := ["_law_words", "_law_select", "_law_at", "_law_rest", "_law_read_here"]
theorem scFstIn : FnScope nmFstIn ["_law_words", "_law_select", "_law_at"] (defScope sFstIn) := ⟨rfl, rfl, rfl, by decide +kernel, rfl, by decide +kernel, by decide +kernel⟩
theorem ok_fstin {f : Addr} {fd fdN fdC : FuncData} (F : Fun K "_law_first_in" "_law_first_in" sFstIn f fd) (N : TxtN K mg)
    (cN : Calls K mg "_law_integer_in" fIn) (GN : FnOk P w K mg base CX0 1 fIn fdN ["_law_word"] spLInt) (bN : Binds K fdN ["_law_word"] [])
    (cC : Calls K mg "_law_is_column" fIc) (GC : FnOk P w K mg base CX0 2 fIc fdC ["_law_it"] spCol) (bC : Binds K fdC ["_law_it"] []) :
    FnOk P w K mg base CX0 3 f fd ["_law_words", "_law_select", "_law_at"] (spFstIn K) := by
  refine F.ok scFstIn (fun vs H Q E h => ?_) (fun cdv A outer s H vs Q E hr h => ?_)
  · obtain ⟨l, ws, c, b, k, sv, rfl, _⟩ := h
    rfl
  · obtain ⟨l, ws, c, b, k, sv, rfl, hl, sm, lc, ds, q⟩ := h
    have many := sm.many
    have big : sizeLine > 1000000 := by decide
    have hr1 : Room 1 _ := hr.mono (by decide)
    have hu : (A.deeper (PyProof.Rows.envOfC "_law_first_in" (defScope sFstIn) s.heap.objs.size f cdv)).units + 8 < cLine := by
      have := hr.units
      omega
    refine ⟨_, pss_cons (ps_set (i := 3) scFstIn.nd rfl (Or.inl rfl) (pe_slice sl_list (pv 0) (po_some (pv 2)) po_none))
      (pss_cons (ps_if (PW.pt (pw_or (pt_cmpR op_notIn_seq (pe_callB call_len_seq (by rfl) N.len (by decide +kernel) (pa_cons (pv 3) pa_nil)) (pe_tupF (pa_cons pe_int (pa_cons pe_int pa_nil))) (by rfl))
          (pw_or (pt_cmpR op_ne (pe_ix ix_list (pv 3) pe_int (fun _ _ => rfl)) pe_str (nomark _))
          (pw_or1 (pt_cmpR (op_notInTD hu) (pe_slice sl_list (pv 3) (po_some pe_int) po_none) (pe_tupF (pa_cons (pe_lst pa_nil) (pa_cons (pe_lst (pa_cons pe_str pa_nil)) pa_nil))) (by rfl)))))) (pss_one (ps_ret pe_non)) pss_nil)
      (pss_cons (ps_set (i := 4) scFstIn.nd rfl (Or.inl rfl) (pe_call GN hr1 rfl cN.g cN.k bN .nil pass0 (pa_cons (pe_ix ix_list (pv 3) pe_int (fun _ _ => rfl)) pa_nil)))
      (pss_cons (ps_if (PW.pt (pw_or (pt_cmpR op_isN (pv 4) pe_non (by rfl)) (pw_or (pt_cmpR op_lt (pv 4) pe_int (nomark _)) (pw_or1 (pt_not (pt_val (pe_call GC hr rfl cC.g cC.k bC .nil pass0 (pa_cons (pe_ix ix_list (pv 3) pe_int (fun _ _ => rfl)) pa_nil)))))))) (pss_one (ps_ret pe_non)) pss_nil)
      (pss_one (ps_ret (pe_tupF (pa_cons (pv 1) (pa_cons (pe_ix ix_list (pv 3) pe_int (fun _ _ => rfl)) (pa_cons (pv 4) (pa_cons (pe_cmpR (op_neP hu) (pe_slice sl_list (pv 3) (po_some pe_int) po_none) (pe_lst pa_nil) (nomark _)) pa_nil)))))))))), ?_⟩
    rw [fst_eq] at q
    have wd : ∀ x ∈ ws.drop c, WdOk x := fun x m => sm.wd (List.mem_of_mem_drop m)
    have ld : (ws.drop c).length = ws.length - c := List.length_drop
    refine ⟨_, rfl, _, rfl, _, rfl, l, _, rfl, SqL.of hl, fun p hp => ?_⟩
    have cd : cutV (ws.map V.str) (some (c : Int)) none = (ws.drop c).map V.str := by
      rw [cut_drop, List.map_drop]
    rw [cd]
    generalize ws.drop c = r at q wd ld ⊢
    have s1 := same_upd (o := .lst (r.map V.str)) hp
    have e1 : upd H p (.lst (r.map V.str)) p = some (.lst (r.map V.str)) := upd_same
    show tSeq _ _ _ _ (upd H p (.lst (r.map V.str)))
    generalize upd H p (.lst (r.map V.str)) = H1 at s1 e1 ⊢
    refine ⟨_, rfl, p, _, rfl, .inl (SqL.of e1), ?_⟩
    rw [List.length_map]
    refine ⟨by show 2 ≤ sizeLine; omega, fun u o hu2 ho => ?_⟩
    have s2 := same_upd (o := .frz o (.tup [.int 4, .int 5])) hu2
    have e2 := s2 _ _ e1
    refine ⟨u, [.int 4, .int 5], rfl, .inr (.inl (.inr ⟨o, upd_same⟩)), rfl, rfl, _, rfl, ?_⟩
    show if (!inV (.int ((r.length : Nat) : Int)) [.int 4, .int 5]) = true then _ else _
    rw [in45]
    generalize upd H1 u (.frz o (.tup [.int 4, .int 5])) = H2 at s2 e2 ⊢
    have s02 := s1.trans s2
    have nope : fst5 b k r = none → ∀ H', Same H H' → Q .non H' := fun e H' s' => q _ _ s' (by rw [e]; exact .non)
    by_cases z : r.length = 4 ∨ r.length = 5
    · have e : (decide (r.length = 4) || decide (r.length = 5)) = true := by
        rw [Bool.or_eq_true, decide_eq_true_iff, decide_eq_true_iff]
        exact z
      refine if_as (congrArg (!·) e) (iteF ?_)
      obtain ⟨x0, n, wb, y, t, rfl, lt⟩ : ∃ x0 n wb y t, r = x0 :: n :: wb :: y :: t ∧ t.length ≤ 1 := by
        match r, z with
        | [_, _, _, _], _ => exact ⟨_, _, _, _, [], rfl, Nat.zero_le _⟩
        | [_, _, _, _, f], _ => exact ⟨_, _, _, _, [f], rfl, Nat.le_refl _⟩
      have on := wd n (by simp)
      have oy := wd y (by simp)
      have ln := on.len
      have ef : fst5 b k (x0 :: n :: wb :: y :: t) = if (t = [] ∨ t = [("falling" : Str)]) ∧ wb = "by" ∧ numW n = true ∧ 1 ≤ intW n ∧ colB y = true then some (.fst b k y (intW n) (!t.isEmpty)) else none := rfl
      have h2 : ∀ {H'}, Same H2 H' → SqL K H' p ((x0 :: n :: wb :: y :: t).map V.str) := fun s' => SqL.of (s' _ _ e2)
      have c4 : cutV ((x0 :: n :: wb :: y :: t).map V.str) (some (4 : Int)) none = t.map V.str := cut_drop _ 4
      refine ⟨_, rfl, p, _, _, .str wb, rfl, rfl, h2 (Same.refl _), atI_nat (j := 2) rfl, rfl, _, rfl, ?_⟩
      refine iteB (fun cb => ?_) (fun cb => ?_)
      · have nb : wb ≠ "by" := fun z => by
          rw [z] at cb
          have q : decide (V.str ("by" : Str) = V.str "by") = true := decide_eq_true rfl
          rw [q] at cb
          cases cb
        exact iteT (nope (by rw [ef, if_neg fun z => nb z.2.1]) H2 s02)
      have eb : wb = "by" := by
        cases q : decide (V.str wb = V.str ("by" : Str)) with
        | true => exact V.str.inj (of_decide_eq_true q)
        | false =>
          rw [q] at cb
          cases cb
      refine ⟨_, rfl, _, rfl, p, _, rfl, h2 (Same.refl _), fun a1 ha1 => ?_⟩
      rw [c4]
      have s3 := same_upd (o := .lst (t.map V.str)) ha1
      have e3 : upd H2 a1 (.lst (t.map V.str)) a1 = some (.lst (t.map V.str)) := upd_same
      generalize upd H2 a1 (.lst (t.map V.str)) = H3 at s3 e3 ⊢
      refine ⟨Nat.zero_le _, fun a2 ha2 => ?_⟩
      have s4 := same_upd (o := .lst []) ha2
      have e4 : upd H3 a2 (.lst []) a2 = some (.lst []) := upd_same
      generalize upd H3 a2 (.lst []) = H4 at s4 e4 ⊢
      refine ⟨by show 1 ≤ sizeLine; omega, fun a3 ha3 => ?_⟩
      have s5 := same_upd (o := .lst [V.str "falling"]) ha3
      have e5 : upd H4 a3 (.lst [V.str "falling"]) a3 = some (.lst [V.str "falling"]) := upd_same
      generalize upd H4 a3 (.lst [V.str "falling"]) = H5 at s5 e5 ⊢
      refine ⟨by show 2 ≤ sizeLine; omega, fun a4 o4 ha4 ho4 => ?_⟩
      have s6 := same_upd (o := .frz o4 (.tup [.ref a2, .ref a3])) ha4
      have s36 := s4.trans (s5.trans s6)
      refine ⟨.list (t.map PyData.str), [.list [], .list ((["falling"] : List Str).map PyData.str)], .lst (SqL.of (s36 _ _ e3)) (dpStrs _ _ _), .tup (.inl (.inr ⟨o4, upd_same⟩)) (.cons (.lst (SqL.of ((s5.trans s6) _ _ e4)) .nil) (.cons (.lst (SqL.of (s6 _ _ e5)) (dpStrs _ _ (["falling"] : List Str))) .nil)), plainStrs _, rfl, by simp only [PyData.depth, depthStrs]; decide, _, rfl, ?_⟩
      have ev : ([PyData.list [], .list ((["falling"] : List Str).map PyData.str)].any fun z => PyData.eqv z (.list (t.map PyData.str))) = decide (t = [] ∨ t = [("falling" : Str)]) := by
        have a : PyData.eqv (.list (([] : List Str).map PyData.str)) (.list (t.map PyData.str)) = decide (([] : List Str) = t) := eqvStrs [] t
        have b : PyData.eqv (.list ((["falling"] : List Str).map PyData.str)) (.list (t.map PyData.str)) = decide ((["falling"] : List Str) = t) := eqvStrs ["falling"] t
        show (PyData.eqv (.list (([] : List Str).map PyData.str)) (.list (t.map PyData.str)) || (PyData.eqv (.list ((["falling"] : List Str).map PyData.str)) (.list (t.map PyData.str)) || false)) = _
        rw [a, b, Bool.or_false, Bool.eq_iff_iff, Bool.or_eq_true, decide_eq_true_iff, decide_eq_true_iff, decide_eq_true_iff]
        exact ⟨fun z => z.elim (fun z => .inl z.symm) (fun z => .inr z.symm), fun z => z.elim (fun z => .inl z.symm) (fun z => .inr z.symm)⟩
      refine if_as (congrArg (!·) ev) ?_
      generalize upd H5 a4 (.frz o4 (.tup [.ref a2, .ref a3])) = H6 at s6 s36 ⊢
      have s26 := s3.trans s36
      have s06 := s02.trans s26
      by_cases tf : t = [] ∨ t = [("falling" : Str)]
      · rw [decide_eq_true tf]
        refine iteF ?_
        refine ⟨_, rfl, p, _, _, .str n, rfl, rfl, h2 s26, atI_nat (j := 1) rfl, n, rfl, by omega, on.num, fun H7 s7 => ?_⟩
        have s27 := s26.trans s7
        have s07 := s06.trans s7
        refine ⟨_, rfl, rfl, _, rfl, ?_⟩
        refine if_as intV_non ?_
        cases en : numW n with
        | false => exact iteT (iteT (nope (by rw [ef, if_neg (by rintro ⟨_, _, z, _⟩; rw [en] at z; cases z)]) H7 s07))
        | true =>
          have iv : intV n = .int (intW n) := if_pos en
          rw [iv]
          refine iteF ⟨_, rfl, _, _, rfl, rfl, _, rfl, ?_⟩
          refine ite_ (fun lt1 => ?_) (fun lt1 => ?_)
          · exact iteT (nope (by rw [ef, if_neg (by rintro ⟨_, _, _, z, _⟩; omega)]) H7 s07)
          · refine ⟨_, rfl, p, _, _, .str y, rfl, rfl, h2 s27, atI_nat (j := 3) rfl, y, rfl, oy, fun H8 s8 => ⟨_, rfl, ?_⟩⟩
            have s28 := s27.trans s8
            have s08 := s07.trans s8
            cases ey : colB y with
            | false => exact iteT (nope (by rw [ef, if_neg (by rintro ⟨_, _, _, _, z⟩; rw [ey] at z; cases z)]) H8 s08)
            | true =>
              refine iteF ⟨_, rfl, _, rfl, p, _, _, .str y, rfl, rfl, h2 s28, atI_nat (j := 3) rfl, _, rfl, ?_⟩
              refine ⟨_, rfl, _, rfl, p, _, rfl, h2 s28, fun a5 ha5 => ?_⟩
              rw [c4]
              have s9 := same_upd (o := .lst (t.map V.str)) ha5
              have e9 : upd H8 a5 (.lst (t.map V.str)) a5 = some (.lst (t.map V.str)) := upd_same
              generalize upd H8 a5 (.lst (t.map V.str)) = H9 at s9 e9 ⊢
              refine ⟨Nat.zero_le _, fun a6 ha6 => ?_⟩
              have s10 := same_upd (o := .lst []) ha6
              refine ⟨.list (t.map PyData.str), .list (([] : List Str).map PyData.str), .lst (SqL.of (s10 _ _ e9)) (dpStrs _ _ _), .lst (SqL.of upd_same) .nil, plainStrs _, rfl, by simp only [PyData.depth, depthStrs]; decide, ?_⟩
              have ev2 : PyData.eqv (.list (t.map PyData.str)) (.list (([] : List Str).map PyData.str)) = decide (t = []) := eqvStrs t []
              rw [ev2]
              generalize upd H9 a6 (.lst []) = H10 at s10 ⊢
              refine ⟨by show 4 ≤ sizeLine; omega, fun a7 o7 ha7 ho7 => ?_⟩
              have s010 := s08.trans (s9.trans s10)
              refine q _ _ (s010.trans (same_upd ha7)) ?_
              have ef2 := ef.trans (if_pos ⟨tf, eb, en, by omega, ey⟩)
              rw [ef2]
              have bt : (!decide (t = [])) = !t.isEmpty := by
                cases t <;> rfl
              rw [bt]
              have dd : FDs K H10 [sv, .str y, .int (intW n), .bl (!t.isEmpty)] [selR b k, .str y, .int (intW n), .bl (!t.isEmpty)] 5 := .cons (ds.sameF s010) (.cons oy.dp (.cons (int_dp on en) (.cons (.bl _) .nil)))
              exact dd.tupF ha7 ho7
      · rw [decide_eq_false tf]
        exact iteT (nope (by rw [ef, if_neg fun z => tf z.1]) H6 s06)
    · have e : (decide (r.length = 4) || decide (r.length = 5)) = false := by
        rw [decide_eq_false fun q => z (.inl q), decide_eq_false fun q => z (.inr q)]
        rfl
      refine if_as (congrArg (!·) e) (iteT (iteT (nope ?_ H2 s02)))
      match r, z with
      | [], _ => rfl
      | [_], _ => rfl
      | [_, _], _ => rfl
      | [_, _, _], _ => rfl
      | [_, _, _, _], z => exact absurd (.inl rfl) z
      | [_, _, _, _, _], z => exact absurd (.inr rfl) z
      | _ :: _ :: _ :: _ :: f :: g :: t, _ => exact if_neg (by rintro ⟨q | q, _⟩ <;> cases q)
end
end Vm
/-! the law reads: a question -/
namespace Vm
open PySem PySem.Spec PyProof.Rows L2 TL
abbrev sLRead : Stmt := top 67
def spLRead9 (K : PySem.W.Frag) : Sp := fun vs H Q _ => ∃ (v : V) (t : Tr) (n : Nat) (bs : List Addr), vs = [v] ∧ Dt K H v t n bs ∧ AskOk t ∧ ∀ v' H', Same H H' → FD K H' v' (toldQ t) 8 → Q v' H'
def told (r : Option Qn) : Tr := match r with
  | none => .non
  | some q => qnR q
theorem qn_none {ws : List Str} (h : bodyT ws 0 = none) : qnT ws = none := by
  unfold qnT
  rw [h]
theorem qn_grp {ws : List Str} {b : Bd} {c : Nat} (h : bodyT ws 0 = some (b, c)) (g : ws[c]? = some ("group" : Str)) : told (qnT ws) = match grpE ws b (grpT ws (c + 1)) with
    | .non => .non
    | t => .tup [.str "groups", t] := by
  unfold qnT
  rw [h]
  dsimp only
  rw [if_pos g]
  cases grpT ws (c + 1) with
  | none => rfl
  | some r =>
    obtain ⟨⟨y, l, gg, hh⟩, e⟩ := r
    unfold grpE
    dsimp only
    by_cases z : e = ws.length
    · rw [if_pos z, if_pos z]
      rfl
    · rw [if_neg z, if_neg z]
      rfl
theorem qn_sel {ws : List Str} {b : Bd} {c : Nat} (h : bodyT ws 0 = some (b, c)) (g : ws[c]? ≠ some ("group" : Str)) : qnT ws = match selT ws 0 with
    | none => none
    | some ((b, k), e) => if ws[e]? = some ("or" : Str) then
          match selT ws (e + 1) with
          | none => none
          | some ((b', k'), e) => if e = ws.length then some (.uni b k b' k') else none
        else if ws[e]? = some ("first" : Str) then firstT b k ws e
        else if e = ws.length then some (.sel b k) else none := by
  unfold qnT
  conv => rhs; unfold selT
  rw [h]
  dsimp only
  rw [if_neg g]
  cases keepT ws c with
  | none => rfl
  | some r => rfl
theorem sel_none {ws : List Str} {a : Nat} (h : bodyT ws a = none) : selT ws a = none := by
  unfold selT
  rw [h]
theorem body_le {ws : List Str} {a c : Nat} {b : Bd} (eb : bodyT ws a = some (b, c)) : c ≤ ws.length := by
  unfold bodyT at eb
  split at eb
  · cases e1 : wo1 ws (a + 1) with
    | none =>
      rw [e1] at eb
      cases eb
    | some r =>
      obtain ⟨pp, j⟩ := r
      rw [e1] at eb
      dsimp only at eb
      obtain ⟨_, j2, _⟩ := wo1_on e1
      cases e2 : woT ws j with
      | none =>
        rw [e2] at eb
        cases eb
      | some r2 =>
        obtain ⟨wo, e⟩ := r2
        rw [e2] at eb
        have eb := Option.some.inj eb
        injection eb with _ eb
        subst eb
        exact (woT_on _ j2 (Nat.lt_succ_self _) e2).2
  · cases eb
theorem sel_le {ws : List Str} {a e : Nat} {p : Bd × List Str} (h : selT ws a = some (p, e)) : e ≤ ws.length := by
  unfold selT at h
  cases eb : bodyT ws a with
  | none =>
    rw [eb] at h
    cases h
  | some r =>
    obtain ⟨b, c⟩ := r
    rw [eb] at h
    dsimp only at h
    cases ek : keepT ws c with
    | none =>
      rw [ek] at h
      cases h
    | some r2 =>
      obtain ⟨k, e2⟩ := r2
      rw [ek] at h
      have h := Option.some.inj h
      injection h with _ h
      subst h
      unfold keepT at ek
      split at ek
      · exact (ents_on (show 0 < 1 by decide) (Nat.lt_succ_self _) ek).2.1
      · cases ek
theorem first_shape (b : Bd) (k : List Str) (ws : List Str) (c : Nat) : firstT b k ws c = none ∨ ∃ y n f, firstT b k ws c = some (.fst b k y n f) := by
  rw [fst_eq]
  unfold fst5
  split
  · split
    · exact .inr ⟨_, _, _, rfl⟩
    · exact .inl rfl
  · exact .inl rfl
section
variable {P : Program} {w : World} {K : PySem.W.Frag} {mg : Str → Option Value} {base : Heap} {fLs fGi fSi fFi : Addr}
abbrev nmLRead : List Str := ["_law_it", "_law_words", "_law_some", "_law_parts", "_law_one", "_law_other"]
theorem scLRead : FnScope nmLRead ["_law_it"] (defScope sLRead) := ⟨rfl, rfl, rfl, by decide +kernel, rfl, by decide +kernel, by decide +kernel⟩
theorem ok_lread {f : Addr} {fd fdL fdG fdS fdF : FuncData} (F : Fun K "_law_read" "_law_read" sLRead f fd) (N : TxtN K mg)
    (cL : Calls K mg "_law_lists" fLs) (GL : FnOk P w K mg base CX0 6 fLs fdL ["_law_words", "_law_at"] (spLists K)) (bL : Binds K fdL ["_law_words", "_law_at"] [])
    (cG : Calls K mg "_law_groups_in" fGi) (GG : FnOk P w K mg base CX0 5 fGi fdG ["_law_words", "_law_some"] (spGrpIn K)) (bG : Binds K fdG ["_law_words", "_law_some"] [])
    (cS : Calls K mg "_law_select_in" fSi) (GS : FnOk P w K mg base CX0 7 fSi fdS ["_law_words", "_law_at"] (spSelIn K)) (bS : Binds K fdS ["_law_words", "_law_at"] [])
    (cF : Calls K mg "_law_first_in" fFi) (GF : FnOk P w K mg base CX0 3 fFi fdF ["_law_words", "_law_select", "_law_at"] (spFstIn K)) (bF : Binds K fdF ["_law_words", "_law_select", "_law_at"] []) :
    FnOk P w K mg base CX0 8 f fd ["_law_it"] (spLRead9 K) := by
  refine F.ok scLRead (fun vs H Q E h => ?_) (fun cdv A outer s H vs Q E hr h => ?_)
  · obtain ⟨v, t, n, bs, rfl, _⟩ := h
    rfl
  · obtain ⟨v, t, n, bs, rfl, d, ok, k⟩ := h
    have big : sizeLine > 1000000 := by decide
    have hr6 : Room 6 _ := hr.mono (by decide)
    have hr5 : Room 5 _ := hr.mono (by decide)
    have hr3 : Room 3 _ := hr.mono (by decide)
    have hu : (A.deeper (PyProof.Rows.envOfC "_law_read" (defScope sLRead) s.heap.objs.size f cdv)).units + 8 < cLine := by
      have := hr.units
      omega
    let G1 : TS := fun D σ H1 => D.rt = Q ∧ ∃ (x : Str) (ws : List Str) (l : Addr) (v2 : V) (v3 : Option V), σ = [some v, some (.ref l), some v2, v3, none, none] ∧ t = .str x ∧ ws = Txt.split x " " ∧ TxQ x ∧ SmQ ws ∧ Same H H1 ∧ H1 l = some (.lst (ws.map V.str)) ∧ (bodyT ws 0 = none ∨ ∃ b c, bodyT ws 0 = some (b, c) ∧ ws[c]? ≠ some ("group" : Str))
    let G2 : TS := fun D σ H1 => D.rt = Q ∧ ∃ (ws : List Str) (l : Addr) (v2 v4 v5 : V) (v3 : Option V) (b : Bd) (kk : List Str) (e : Nat), σ = [some v, some (.ref l), some v2, v3, some v4, some v5] ∧ Same H H1 ∧ H1 l = some (.lst (ws.map V.str)) ∧ prA K H1 v4 (selR b kk) 5 e ∧
      selA K (if ws[e]? = some ("or" : Str) then selT ws (e + 1) else none) v5 H1 ∧ toldQ t = told (match (if ws[e]? = some ("or" : Str) then selT ws (e + 1) else none) with
          | none => none
          | some ((b', k'), e) => if e = ws.length then some (.uni b kk b' k') else none)
    refine ⟨_, pss_cons (ps_if (pt_not (pt_truth (pe_callB call_isi (by rfl) N.isi (by decide +kernel) (pa_cons (pv 0) (pa_cons (pe_bltn (v := .ty "str") (by rfl) N.str (by decide +kernel) rfl) pa_nil))) (fun _ => rfl))) (pss_one (ps_ret pe_non)) pss_nil)
      (pss_cons (ps_set (i := 1) scLRead.nd rfl (Or.inl rfl) (pe_split (pv 0) pe_str))
      (pss_cons (ps_set (i := 2) scLRead.nd rfl (Or.inl rfl) (pe_call GL hr6 rfl cL.g cL.k bL .nil pass0 (pa_cons (pv 1) (pa_cons pe_int pa_nil))))
      (pss_cons (ps_if (PW.pt (pw_and (pt_cmpR op_notN (pv 2) pe_non (by rfl)) (pw_and1 (pt_cmpR (op_eqP hu) (pe_slice sl_list (pv 1) (po_some (pe_ix ix_tup (pv 2) pe_int (fun _ _ => rfl))) (po_some (pe_op op_add (pe_ix ix_tup (pv 2) pe_int (fun _ _ => rfl)) pe_int))) (pe_lst (pa_cons pe_str pa_nil)) (nomark _)))))
        (pss_cons (ps_set (i := 3) scLRead.nd rfl (Or.inl rfl) (pe_call GG hr5 rfl cG.g cG.k bG .nil pass0 (pa_cons (pv 1) (pa_cons (pv 2) pa_nil))))
        (pss_one (ps_ret (pe_ifExp (pt_cmpR op_isN (pv 3) pe_non (by rfl)) pe_non (pe_tupF (pa_cons pe_str (pa_cons (pv 3) pa_nil))))))) pss_nil)
      (pss_imp (G := G1) (pss_cons (ps_set (i := 4) scLRead.nd rfl (Or.inl rfl) (pe_call GS hr rfl cS.g cS.k bS .nil pass0 (pa_cons (pv 1) (pa_cons pe_int pa_nil))))
      (pss_cons (ps_if (pt_cmpR op_isN (pv 4) pe_non (by rfl)) (pss_one (ps_ret pe_non)) pss_nil)
      (pss_cons (ps_if (pt_cmpR op_eq (pe_ix ix_tup (pv 4) pe_int (fun _ _ => rfl)) (pe_callB call_len_seq (by rfl) N.len (by decide +kernel) (pa_cons (pv 1) pa_nil)) (nomark _)) (pss_one (ps_ret (pe_tupF (pa_cons pe_str (pa_cons (pe_ix ix_tup (pv 4) pe_int (fun _ _ => rfl)) pa_nil))))) pss_nil)
      (pss_cons (ps_if (pt_cmpR op_eq (pe_ix ix_list (pv 1) (pe_ix ix_tup (pv 4) pe_int (fun _ _ => rfl)) (fun _ _ => rfl)) pe_str (nomark _))
        (pss_cons (ps_set (i := 3) scLRead.nd rfl (Or.inl rfl) (pe_call GF hr3 rfl cF.g cF.k bF .nil pass0 (pa_cons (pv 1) (pa_cons (pe_ix ix_tup (pv 4) pe_int (fun _ _ => rfl)) (pa_cons (pe_ix ix_tup (pv 4) pe_int (fun _ _ => rfl)) pa_nil)))))
        (pss_one (ps_ret (pe_ifExp (pt_cmpR op_isN (pv 3) pe_non (by rfl)) pe_non (pe_tupF (pa_cons pe_str (pa_cons (pv 3) pa_nil))))))) pss_nil)
      (pss_cons (ps_set (i := 5) scLRead.nd rfl (Or.inl rfl) (pe_ifExp (pt_cmpR op_eq (pe_ix ix_list (pv 1) (pe_ix ix_tup (pv 4) pe_int (fun _ _ => rfl)) (fun _ _ => rfl)) pe_str (nomark _)) (pe_call GS hr rfl cS.g cS.k bS .nil pass0 (pa_cons (pv 1) (pa_cons (pe_op op_add (pe_ix ix_tup (pv 4) pe_int (fun _ _ => rfl)) pe_int) pa_nil))) pe_non))
      (pss_imp (G := G2) (pss_one (ps_ret (pe_ifExp (PW.pt (pw_and (pt_cmpR op_notN (pv 5) pe_non (by rfl)) (pw_and1 (pt_cmpR op_eq (pe_ix ix_tup (pv 5) pe_int (fun _ _ => rfl)) (pe_callB call_len_seq (by rfl) N.len (by decide +kernel) (pa_cons (pv 1) pa_nil)) (nomark _)))))
          (pe_tupF (pa_cons pe_str (pa_cons (pe_tupF (pa_cons (pe_ix ix_tup (pv 4) pe_int (fun _ _ => rfl)) (pa_cons (pe_ix ix_tup (pv 5) pe_int (fun _ _ => rfl)) pa_nil))) pa_nil))) pe_non)))
        (fun D σ H1 g2 => ?_))))))) (fun D σ H1 g1 => ?_))))), ?_⟩
    · obtain ⟨eD, ws, l, v2, v4, v5, v3, b, kk, e, rfl, s1, hl1, p4, sa, et⟩ := g2
      generalize (if ws[e]? = some ("or" : Str) then selT ws (e + 1) else none) = r at sa et
      refine ⟨_, rfl, rfl, _, rfl, ?_⟩
      cases r with
      | none =>
        have vn : v5 = .non := sa
        subst vn
        refine if_as (b' := false) rfl (iteF (iteF ?_))
        show D.rt _ _
        rw [eD]
        refine k _ _ s1 ?_
        rw [et]
        exact .non
      | some r =>
        obtain ⟨⟨b', k'⟩, e'⟩ := r
        obtain ⟨q5, w5, rfl, h5, d5⟩ := sa
        obtain ⟨q4, w4, rfl, h4, d4⟩ := p4
        refine if_as (b' := true) (by rw [decide_eq_false fun z => by cases z]; rfl) (iteT ?_)
        refine ⟨_, rfl, q5, _, _, _, rfl, rfl, h5, rfl, _, rfl, l, _, rfl, .inl (SqL.of hl1), rfl, _, rfl, ?_⟩
        rw [List.length_map]
        by_cases z : e' = ws.length
        · refine if_as (decide_eq_true (by rw [z])) (iteT ?_)
          refine ⟨_, rfl, q4, _, _, _, rfl, rfl, h4, rfl, ?_⟩
          refine ⟨_, rfl, q5, _, _, _, rfl, rfl, h5, rfl, ?_⟩
          refine ⟨by show 2 ≤ sizeLine; omega, fun r o hr' ho => ?_⟩
          have dd : FDs K H1 [w4, w5] [selR b kk, selR b' k'] 5 := .cons d4 (.cons d5 .nil)
          have dt := dd.tupF hr' ho
          have s2 := same_upd (o := .frz o (.tup [w4, w5])) hr'
          generalize upd H1 r (.frz o (.tup [w4, w5])) = H2 at dt s2 ⊢
          refine ⟨by show 2 ≤ sizeLine; omega, fun u o2 hu2 ho2 => ?_⟩
          show D.rt _ _
          rw [eD]
          refine k _ _ ((s1.trans s2).trans (same_upd hu2)) ?_
          rw [et]
          dsimp only
          rw [if_pos z]
          have d2 : FDs K H2 [.str "union", .ref r] [.str "union", .tup [selR b kk, selR b' k']] 6 := .cons (.str (by decide +kernel) (by decide)) (.cons dt .nil)
          exact (d2.tupF hu2 ho2).lvl (by decide)
        · refine if_as (decide_eq_false fun q => z (by have := V.int.inj q; omega)) (iteF ?_)
          show D.rt _ _
          rw [eD]
          refine k _ _ s1 ?_
          rw [et]
          dsimp only
          rw [if_neg z]
          exact .non
    · obtain ⟨eD, x, ws, l, v2, v3, rfl, et, ews, tx, sm, s1, hl1, cas⟩ := g1
      have eT : toldQ t = told (qnT ws) := by rw [et, ews]; rfl
      rw [eT] at k
      refine ⟨_, rfl, l, ws, 0, rfl, hl1, sm, by omega, fun v4 H2 s2 sa => ?_⟩
      have s02 := s1.trans s2
      have hl2 := s2 _ _ hl1
      refine ⟨_, rfl, rfl, _, rfl, ?_⟩
      cases es : selT ws 0 with
      | none =>
        rw [es] at sa
        have vn : v4 = .non := sa
        subst vn
        refine if_as (decide_eq_true rfl) (iteT ?_)
        show D.rt _ _
        rw [eD]
        refine k _ _ s02 ?_
        have q : qnT ws = none := by
          rcases cas with e | ⟨b, c, e, ng⟩
          · exact qn_none e
          · rw [qn_sel e ng, es]
        rw [q]
        exact .non
      | some r =>
        obtain ⟨⟨b, kk⟩, e⟩ := r
        rw [es] at sa
        obtain ⟨q4, w4, rfl, h4, d4⟩ := id sa
        have le := sel_le es
        have eq : qnT ws = if ws[e]? = some ("or" : Str) then
              match selT ws (e + 1) with
              | none => none
              | some ((b', k'), e) => if e = ws.length then some (.uni b kk b' k') else none
            else if ws[e]? = some ("first" : Str) then firstT b kk ws e
            else if e = ws.length then some (.sel b kk) else none := by
          rcases cas with e | ⟨b0, c0, e, ng⟩
          · rw [sel_none e] at es
            cases es
          · rw [qn_sel e ng, es]
        refine if_as (decide_eq_false fun z => by cases z) (iteF ?_)
        refine ⟨_, rfl, q4, _, _, _, rfl, rfl, h4, rfl, _, rfl, l, _, rfl, .inl (SqL.of hl2), rfl, _, rfl, ?_⟩
        rw [List.length_map]
        by_cases z : e = ws.length
        · refine if_as (decide_eq_true (by rw [z])) (iteT ?_)
          refine ⟨_, rfl, q4, _, _, _, rfl, rfl, h4, rfl, ?_⟩
          refine ⟨by show 2 ≤ sizeLine; omega, fun u o2 hu2 ho2 => ?_⟩
          show D.rt _ _
          rw [eD]
          refine k _ _ (s02.trans (same_upd hu2)) ?_
          have wn : ws[e]? = none := List.getElem?_eq_none (by omega)
          rw [eq, wn, if_neg (by intro z; cases z), if_neg (by intro z; cases z), if_pos z]
          have d2 : FDs K H2 [.str "select", w4] [.str "select", selR b kk] 5 := .cons (.str (by decide +kernel) (by decide)) (.cons d4 .nil)
          exact (d2.tupF hu2 ho2).lvl (by decide)
        · have lt : e < ws.length := by omega
          obtain ⟨w0, ew⟩ : ∃ w0, ws[e]? = some w0 := ⟨_, List.getElem?_eq_getElem lt⟩
          have at0 : atI (ws.map V.str) (e : Int) = some (.str w0) := atI_nat (by rw [List.getElem?_map, ew]; rfl)
          refine if_as (decide_eq_false fun q => z (by have := V.int.inj q; omega)) (iteF ?_)
          refine ⟨_, rfl, _, rfl, q4, _, _, _, rfl, rfl, h4, rfl, l, _, _, .str w0, rfl, rfl, SqL.of hl2, at0, rfl, _, rfl, ?_⟩
          by_cases ef : w0 = "first"
          · refine if_as (decide_eq_true (by rw [ef])) (iteT ?_)
            refine ⟨_, rfl, _, rfl, q4, _, _, _, rfl, rfl, h4, rfl, _, rfl, q4, _, _, _, rfl, rfl, h4, rfl, l, ws, e, b, kk, w4, rfl, hl2, sm, lt, d4, fun v6 H3 s3 d6 => ?_⟩
            have s03 := s02.trans s3
            have eq2 : qnT ws = firstT b kk ws e := by
              rw [eq, ew, if_neg (by rw [ef]; decide), if_pos (by rw [ef])]
            refine ⟨_, rfl, rfl, _, rfl, ?_⟩
            rcases first_shape b kk ws e with e1 | ⟨y, n1, f1, e1⟩
            · rw [e1] at d6
              have vn := d6.non_eq
              subst vn
              refine if_as (decide_eq_true rfl) (iteT ?_)
              show D.rt _ _
              rw [eD]
              refine k _ _ s03 ?_
              rw [eq2, e1]
              exact .non
            · rw [e1] at d6
              have d6 : FD K H3 v6 (.tup [selR b kk, .str y, .int n1, .bl f1]) 6 := d6
              obtain ⟨a6, rfl⟩ := d6.ref rfl
              refine if_as (decide_eq_false fun z => by cases z) (iteF ?_)
              refine ⟨_, rfl, by show 2 ≤ sizeLine; omega, fun u o2 hu2 ho2 => ?_⟩
              show D.rt _ _
              rw [eD]
              refine k _ _ (s03.trans (same_upd hu2)) ?_
              rw [eq2, e1]
              have d2 : FDs K H3 [.str "first", .ref a6] [.str "first", .tup [selR b kk, .str y, .int n1, .bl f1]] 6 := .cons (.str (by decide +kernel) (by decide)) (.cons d6 .nil)
              exact (d2.tupF hu2 ho2).lvl (by decide)
          · refine if_as (decide_eq_false fun q => ef (V.str.inj q)) (iteF ?_)
            refine ⟨_, rfl, _, rfl, q4, _, _, _, rfl, rfl, h4, rfl, l, _, _, .str w0, rfl, rfl, SqL.of hl2, at0, rfl, _, rfl, ?_⟩
            have eq3 : toldQ t = told (match (if ws[e]? = some ("or" : Str) then selT ws (e + 1) else none) with
              | none => none
              | some ((b', k'), e) => if e = ws.length then some (.uni b kk b' k') else none) := by
              rw [eT, eq]
              by_cases eo : ws[e]? = some ("or" : Str)
              · rw [if_pos eo, if_pos eo]
              · rw [if_neg eo, if_neg eo, if_neg (by rw [ew]; exact fun q => ef (Option.some.inj q)), if_neg z]
            by_cases eo : w0 = "or"
            · refine if_as (decide_eq_true (by rw [eo])) (iteT ?_)
              refine ⟨_, rfl, _, rfl, q4, _, _, _, rfl, rfl, h4, rfl, _, _, rfl, rfl, l, ws, e + 1, rfl, hl2, sm, by omega, fun v5 H3 s3 sa5 => ?_⟩
              refine ⟨eD, ws, l, v2, .ref q4, v5, v3, b, kk, e, rfl, s02.trans s3, s3 _ _ hl2, sa.same s3, ?_, eq3⟩
              rw [if_pos (by rw [ew, eo])]
              exact sa5
            · refine if_as (decide_eq_false fun q => eo (V.str.inj q)) (iteF ?_)
              refine ⟨eD, ws, l, v2, .ref q4, .non, v3, b, kk, e, rfl, s02, hl2, sa, ?_, eq3⟩
              rw [if_neg (by rw [ew]; exact fun q => eo (Option.some.inj q))]
              rfl
    · refine ⟨_, rfl, v, _, _, _, isStr t, rfl, .ty _, d.ty, kit_str t, isStr t, rfl, ?_⟩
      cases d with
      | @str n x h hz =>
        refine iteF ?_
        have tx := ok x rfl
        have sm := tx.sm
        have lx := tx.len
        refine ⟨_, rfl, ⟨_, rfl⟩, _, _, rfl, rfl, by decide +kernel, by omega, fun p hp => ?_⟩
        obtain ⟨ws, hws⟩ : ∃ ws, ws = Txt.split x " " := ⟨_, rfl⟩
        have eT : toldQ (.str x) = told (qnT ws) := by rw [hws]; rfl
        rw [← hws] at sm ⊢
        have s1 := same_upd (o := .lst (ws.map V.str)) hp
        have e1 : upd H p (.lst (ws.map V.str)) p = some (.lst (ws.map V.str)) := upd_same
        show tSeq _ _ _ _ (upd H p (.lst (ws.map V.str)))
        generalize upd H p (.lst (ws.map V.str)) = H1 at s1 e1 ⊢
        refine ⟨_, rfl, p, ws, 0, rfl, e1, sm, by omega, fun v2 H2 s2 la => ?_⟩
        have s02 := s1.trans s2
        have hl2 := s2 _ _ e1
        refine ⟨_, rfl, rfl, _, rfl, ?_⟩
        cases eb : bodyT ws 0 with
        | none =>
          rw [eb] at la
          have vn : v2 = .non := la
          subst vn
          refine if_as (b' := false) rfl (iteF (iteF ?_))
          exact ⟨rfl, x, ws, p, .non, none, rfl, rfl, hws, tx, sm, s02, hl2, .inl eb⟩
        | some r =>
          obtain ⟨b, c⟩ := r
          rw [eb] at la
          obtain ⟨q, v1, v3, v4, rfl, hq, d1, d2, d3⟩ := la
          refine if_as (b' := true) (by rw [decide_eq_false fun z => by cases z]; rfl) (iteT ?_)
          refine ⟨_, rfl, _, rfl, q, _, _, _, rfl, rfl, hq, rfl, _, rfl, ?_⟩
          refine ⟨_, rfl, q, _, _, _, rfl, rfl, hq, rfl, _, _, rfl, rfl, _, rfl, p, _, rfl, SqL.of hl2, fun u hu2 => ?_⟩
          rw [cut_one]
          have s3 := same_upd (o := .lst (((ws.drop c).take 1).map V.str)) hu2
          have e3 : upd H2 u (.lst (((ws.drop c).take 1).map V.str)) u = some (.lst (((ws.drop c).take 1).map V.str)) := upd_same
          generalize upd H2 u (.lst (((ws.drop c).take 1).map V.str)) = H3 at s3 e3 ⊢
          refine ⟨by show 1 ≤ sizeLine; omega, fun u2 hu3 => ?_⟩
          have s4 := same_upd (o := .lst [V.str "group"]) hu3
          refine ⟨.list (((ws.drop c).take 1).map PyData.str), .list ((["group"] : List Str).map PyData.str), .lst (SqL.of (s4 _ _ e3)) (dpStrs _ _ _), .lst (SqL.of upd_same) (dpStrs _ _ (["group"] : List Str)), plainStrs _, plainStrs _, by simp only [PyData.depth, depthStrs]; decide, _, rfl, ?_⟩
          rw [eqv_one]
          generalize upd H3 u2 (.lst [V.str "group"]) = H4 at s4 ⊢
          have s24 := s3.trans s4
          have s04 := s02.trans s24
          by_cases z : ws[c]? = some ("group" : Str)
          · rw [decide_eq_true z]
            refine iteT ?_
            have lt := get_lt z
            refine ⟨_, rfl, _, rfl, p, q, ws, b, c, v1, v3, v4, rfl, s24 _ _ hl2, sm, by omega, sameT s24 hq, d1.sameF s24, d2.sameF s24, d3.sameF s24, fun v6 H5 s5 d6 => ?_⟩
            have s05 := s04.trans s5
            have eg := qn_grp eb z
            refine ⟨_, rfl, rfl, _, rfl, ?_⟩
            have shape : grpE ws b (grpT ws (c + 1)) = .non ∨ ∃ ts, grpE ws b (grpT ws (c + 1)) = .tup ts := by
              cases grpT ws (c + 1) with
              | none => exact .inl rfl
              | some r =>
                obtain ⟨pp, e⟩ := r
                unfold grpE
                dsimp only
                split
                · exact .inr ⟨_, rfl⟩
                · exact .inl rfl
            rcases shape with e1 | ⟨ts, e1⟩
            · rw [e1] at d6 eg
              have vn := d6.non_eq
              subst vn
              refine if_as (decide_eq_true rfl) (iteT ?_)
              refine k _ _ s05 ?_
              rw [eT, eg]
              exact .non
            · rw [e1] at d6 eg
              obtain ⟨a6, rfl⟩ := d6.ref rfl
              refine if_as (decide_eq_false fun z => by cases z) (iteF ?_)
              refine ⟨_, rfl, by show 2 ≤ sizeLine; omega, fun u4 o2 hu4 ho2 => ?_⟩
              refine k _ _ (s05.trans (same_upd hu4)) ?_
              rw [eT, eg]
              have d2 : FDs K H5 [.str "groups", .ref a6] [.str "groups", .tup ts] 5 := .cons (.str (by decide +kernel) (by decide)) (.cons d6 .nil)
              exact (d2.tupF hu4 ho2).lvl (by decide)
          · rw [decide_eq_false z]
            refine iteF ?_
            exact ⟨rfl, x, ws, p, .ref q, none, rfl, rfl, hws, tx, sm, s04, s24 _ _ hl2, .inr ⟨b, c, eb, z⟩⟩
      | _ => exact iteT (k _ _ (Same.refl H) .non)
end
end Vm
/-! the law: what a question tells -/
namespace Vm
open PySem PySem.Spec PyProof.Rows L2 TL
abbrev sTSel : Stmt := top 68
abbrev sTold : Stmt := top 69
/-- an own class whose instances are asked for their class -/
structure TxtI (K : PySem.W.Frag) (C : Addr) : Prop where
  cl : Cls K C
  ca : PySem.W.findIn K (.ref C) "__class__" = some (some (.builtin "object.__class__"))
  cn : PySem.W.specialIn K (.builtin "object.__class__") "__get__" = some (some (.builtin "getset_descriptor.__get__"))
  ct : PySem.W.takesIn K (.builtin "object.__class__") = some true
  mo : PySem.W.mroIn K C (.type "object") = some true
structure TxtQ (K : PySem.W.Frag) (mg : Str → Option Value) (CS CU CF CG : Addr) : Prop where
  gS : mg "Select" = some (.ref CS)
  gU : mg "Union" = some (.ref CU)
  gF : mg "First" = some (.ref CF)
  gG : mg "Groups" = some (.ref CG)
  iS : TxtI K CS
  iU : TxtI K CU
  iF : TxtI K CF
  iG : TxtI K CG
  cS : TxtC K CS ["uses", "keep", "where", "without"]
  cU : TxtC K CU ["first", "second"]
  cF : TxtC K CF ["select", "by", "count", "falling"]
  cG : TxtC K CG ["uses", "by", "where", "without", "least", "greatest", "having"]
  kSS : PySem.W.kitOne K (.ref CS) (.ref CS) = some true
  kUS : PySem.W.kitOne K (.ref CU) (.ref CS) = some false
  kUU : PySem.W.kitOne K (.ref CU) (.ref CU) = some true
  kFS : PySem.W.kitOne K (.ref CF) (.ref CS) = some false
  kFU : PySem.W.kitOne K (.ref CF) (.ref CU) = some false
  kFF : PySem.W.kitOne K (.ref CF) (.ref CF) = some true
  kGS : PySem.W.kitOne K (.ref CG) (.ref CS) = some false
  kGU : PySem.W.kitOne K (.ref CG) (.ref CU) = some false
  kGF : PySem.W.kitOne K (.ref CG) (.ref CF) = some false
  kGG : PySem.W.kitOne K (.ref CG) (.ref CG) = some true
def spTSel (K : PySem.W.Frag) (CS : Addr) : Sp := fun vs H Q _ => ∃ (v : V) (b : Bd) (k : List Str), vs = [v] ∧ SelAt K CS H v b k ∧ ∀ v' H', Same H H' → FD K H' v' (selR b k) 5 → Q v' H'
def spTold (K : PySem.W.Frag) (CS CU CF CG : Addr) : Sp := fun vs H Q _ => ∃ (v : V) (q : Qn), vs = [v] ∧ QAt K CS CU CF CG H v q ∧ ∀ v' H', Same H H' → FD K H' v' (qnR q) 8 → Q v' H'
section
variable {P : Program} {w : World} {K : PySem.W.Frag} {mg : Str → Option Value} {base : Heap} {CS CU CF CG fTs : Addr}
theorem scTSel : FnScope ["_law_question"] ["_law_question"] (defScope sTSel) := ⟨rfl, rfl, rfl, by decide +kernel, rfl, by decide +kernel, by decide +kernel⟩
theorem ok_tsel {f : Addr} {fd : FuncData} (F : Fun K "_law_told_select" "_law_told_select" sTSel f fd) (T : TxtQ K mg CS CU CF CG) : FnOk P w K mg base CX0 1 f fd ["_law_question"] (spTSel K CS) := by
  refine F.ok scTSel (fun vs H Q E h => ?_) (fun cdv A outer s H vs Q E hr h => ?_)
  · obtain ⟨v, b, k, rfl, _⟩ := h
    rfl
  · obtain ⟨v, b, kk, rfl, ⟨x, dx, v1, v2, v3, v4, rfl, hx, d1, d2, d3, d4⟩, k⟩ := h
    have big : sizeLine > 1000 := by decide
    refine ⟨_, pss_one (ps_ret (pe_tupF (pa_cons (pe_fld (pv 0) rfl) (pa_cons (pe_fld (pv 0) rfl) (pa_cons (pe_fld (pv 0) rfl) (pa_cons (pe_fld (pv 0) rfl) pa_nil)))))), ?_⟩
    refine ⟨_, rfl, x, CS, dx, _, _, rfl, hx, T.cS.cl, T.cS.na _ (by decide), rfl, ?_⟩
    refine ⟨_, rfl, x, CS, dx, _, _, rfl, hx, T.cS.cl, T.cS.na _ (by decide), rfl, ?_⟩
    refine ⟨_, rfl, x, CS, dx, _, _, rfl, hx, T.cS.cl, T.cS.na _ (by decide), rfl, ?_⟩
    refine ⟨_, rfl, x, CS, dx, _, _, rfl, hx, T.cS.cl, T.cS.na _ (by decide), rfl, ?_⟩
    refine ⟨by show 4 ≤ sizeLine; omega, fun p o hp ho => k _ _ (same_upd hp) ?_⟩
    have dd : FDs K H [v1, v2, v3, v4] [usR b.us, csR kk, whR b.wh, woR b.wo] 4 := .cons (d1.lvl (by decide)) (.cons (d2.lvl (by decide)) (.cons (d3.lvl (by decide)) (.cons d4 .nil)))
    exact dd.tupF hp ho
theorem scTold : FnScope ["_law_question", "_law_parts"] ["_law_question"] (defScope sTold) := ⟨rfl, rfl, rfl, by decide +kernel, rfl, by decide +kernel, by decide +kernel⟩
theorem ok_told {f : Addr} {fd fdT : FuncData} (F : Fun K "_law_told" "_law_told" sTold f fd) (N : TxtN K mg) (T : TxtQ K mg CS CU CF CG)
    (cT : Calls K mg "_law_told_select" fTs) (GT : FnOk P w K mg base CX0 1 fTs fdT ["_law_question"] (spTSel K CS)) (bT : Binds K fdT ["_law_question"] []) :
    FnOk P w K mg base CX0 2 f fd ["_law_question"] (spTold K CS CU CF CG) := by
  refine F.ok scTold (fun vs H Q E h => ?_) (fun cdv A outer s H vs Q E hr h => ?_)
  · obtain ⟨v, q, rfl, _⟩ := h
    rfl
  · obtain ⟨v, q, rfl, qa, k⟩ := h
    have big : sizeLine > 1000 := by decide
    have word : ∀ {H' : Hp} {x : Str} {n : Nat}, (reprText x).length ≤ sizeLine → x.length ≤ sizeLine → FD K H' (.str x) (.str x) n := fun a b => .str a b
    refine ⟨_, pss_cons (ps_if (pt_val (pe_callB call_isi (by rfl) N.isi (by decide +kernel) (pa_cons (pv 0) (pa_cons (pe_glob (v := .ref CS) (by rfl) T.gS rfl) pa_nil)))) (pss_one (ps_ret (pe_tupF (pa_cons pe_str (pa_cons (pe_call GT hr rfl cT.g cT.k bT .nil pass0 (pa_cons (pv 0) pa_nil)) pa_nil))))) pss_nil)
      (pss_cons (ps_if (pt_val (pe_callB call_isi (by rfl) N.isi (by decide +kernel) (pa_cons (pv 0) (pa_cons (pe_glob (v := .ref CU) (by rfl) T.gU rfl) pa_nil)))) (pss_one (ps_ret (pe_tupF (pa_cons pe_str (pa_cons (pe_tupF (pa_cons (pe_call GT hr rfl cT.g cT.k bT .nil pass0 (pa_cons (pe_fld (pv 0) rfl) pa_nil)) (pa_cons (pe_call GT hr rfl cT.g cT.k bT .nil pass0 (pa_cons (pe_fld (pv 0) rfl) pa_nil)) pa_nil))) pa_nil))))) pss_nil)
      (pss_cons (ps_if (pt_val (pe_callB call_isi (by rfl) N.isi (by decide +kernel) (pa_cons (pv 0) (pa_cons (pe_glob (v := .ref CF) (by rfl) T.gF rfl) pa_nil)))) (pss_one (ps_ret (pe_tupF (pa_cons pe_str (pa_cons (pe_tupF (pa_cons (pe_call GT hr rfl cT.g cT.k bT .nil pass0 (pa_cons (pe_fld (pv 0) rfl) pa_nil)) (pa_cons (pe_fld (pv 0) rfl) (pa_cons (pe_fld (pv 0) rfl) (pa_cons (pe_fld (pv 0) rfl) pa_nil))))) pa_nil))))) pss_nil)
      (pss_cons (ps_if (pt_not (pt_val (pe_callB call_isi (by rfl) N.isi (by decide +kernel) (pa_cons (pv 0) (pa_cons (pe_glob (v := .ref CG) (by rfl) T.gG rfl) pa_nil))))) (pss_one (ps_ret pe_str)) pss_nil)
      (pss_cons (ps_set (i := 1) scTold.nd rfl (Or.inl rfl) (pe_tupF (pa_cons (pe_fld (pv 0) rfl) (pa_cons (pe_fld (pv 0) rfl) (pa_cons (pe_fld (pv 0) rfl) (pa_cons (pe_fld (pv 0) rfl) (pa_cons (pe_fld (pv 0) rfl) (pa_cons (pe_fld (pv 0) rfl) pa_nil))))))))
      (pss_one (ps_ret (pe_tupF (pa_cons pe_str (pa_cons (pe_op op_catF (pv 1) (pe_tupF (pa_cons (pe_fld (pv 0) rfl) pa_nil))) pa_nil))))))))), ?_⟩
    cases q with
    | sel b kk =>
      obtain ⟨x, dx, v1, v2, v3, v4, rfl, hx, dd⟩ := id qa
      refine ⟨_, rfl, .ref x, _, _, _, true, rfl, .own _, .base (.ins hx T.iS.cl T.iS.ca T.iS.cn T.iS.ct T.iS.mo), T.kSS, _, rfl, iteT ?_⟩
      refine ⟨_, rfl, .ref x, b, kk, rfl, qa, fun v' H1 s1 d => ?_⟩
      refine ⟨by show 2 ≤ sizeLine; omega, fun p o hp ho => k _ _ (s1.trans (same_upd hp)) ?_⟩
      have d2 : FDs K H1 [.str "select", v'] [.str "select", selR b kk] 5 := .cons (.str (by decide +kernel) (by decide)) (.cons d .nil)
      exact (d2.tupF hp ho).lvl (by decide)
    | uni b kk b' k' =>
      obtain ⟨x, dx, s1, s2, rfl, hx, q1, q2⟩ := id qa
      have ty := TyX.base (K := K) (.ins hx T.iU.cl T.iU.ca T.iU.cn T.iU.ct T.iU.mo)
      refine ⟨_, rfl, .ref x, _, _, _, false, rfl, .own _, ty, T.kUS, _, rfl, iteF ?_⟩
      refine ⟨_, rfl, .ref x, _, _, _, true, rfl, .own _, ty, T.kUU, _, rfl, iteT ?_⟩
      refine ⟨_, rfl, x, CU, dx, _, _, rfl, hx, T.cU.cl, T.cU.na _ (by decide), rfl, s1, b, kk, rfl, q1, fun w1 H1 e1 d1 => ?_⟩
      refine ⟨_, rfl, x, CU, dx, _, _, rfl, e1 _ _ hx, T.cU.cl, T.cU.na _ (by decide), rfl, s2, b', k', rfl, q2.same e1, fun w2 H2 e2 d2 => ?_⟩
      refine ⟨by show 2 ≤ sizeLine; omega, fun p o hp ho => ?_⟩
      have dd : FDs K H2 [w1, w2] [selR b kk, selR b' k'] 5 := .cons (d1.sameF e2) (.cons d2 .nil)
      have dt := dd.tupF hp ho
      have e3 := same_upd (o := .frz o (.tup [w1, w2])) hp
      generalize upd H2 p (.frz o (.tup [w1, w2])) = H3 at dt e3 ⊢
      refine ⟨by show 2 ≤ sizeLine; omega, fun u o2 hu ho2 => k _ _ (((e1.trans e2).trans e3).trans (same_upd hu)) ?_⟩
      have d4 : FDs K H3 [.str "union", .ref p] [.str "union", .tup [selR b kk, selR b' k']] 6 := .cons (.str (by decide +kernel) (by decide)) (.cons dt .nil)
      exact (d4.tupF hu ho2).lvl (by decide)
    | fst b kk y n fl =>
      obtain ⟨x, dx, s1, rfl, hx, q1, dy, dn⟩ := id qa
      have ty := TyX.base (K := K) (.ins hx T.iF.cl T.iF.ca T.iF.cn T.iF.ct T.iF.mo)
      refine ⟨_, rfl, .ref x, _, _, _, false, rfl, .own _, ty, T.kFS, _, rfl, iteF ?_⟩
      refine ⟨_, rfl, .ref x, _, _, _, false, rfl, .own _, ty, T.kFU, _, rfl, iteF ?_⟩
      refine ⟨_, rfl, .ref x, _, _, _, true, rfl, .own _, ty, T.kFF, _, rfl, iteT ?_⟩
      refine ⟨_, rfl, x, CF, dx, _, _, rfl, hx, T.cF.cl, T.cF.na _ (by decide), rfl, s1, b, kk, rfl, q1, fun w1 H1 e1 d1 => ?_⟩
      refine ⟨_, rfl, x, CF, dx, _, _, rfl, e1 _ _ hx, T.cF.cl, T.cF.na _ (by decide), rfl, ?_⟩
      refine ⟨_, rfl, x, CF, dx, _, _, rfl, e1 _ _ hx, T.cF.cl, T.cF.na _ (by decide), rfl, ?_⟩
      refine ⟨_, rfl, x, CF, dx, _, _, rfl, e1 _ _ hx, T.cF.cl, T.cF.na _ (by decide), rfl, ?_⟩
      refine ⟨by show 4 ≤ sizeLine; omega, fun p o hp ho => ?_⟩
      have dd : FDs K H1 [w1, .str y, .int n, .bl fl] [selR b kk, .str y, .int n, .bl fl] 5 := .cons d1 (.cons ((dy.sameF e1).lvl (by decide)) (.cons ((dn.sameF e1).lvl (by decide)) (.cons (.bl _) .nil)))
      have dt := dd.tupF hp ho
      have e3 := same_upd (o := .frz o (.tup [w1, .str y, .int n, .bl fl])) hp
      generalize upd H1 p (.frz o (.tup [w1, .str y, .int n, .bl fl])) = H3 at dt e3 ⊢
      refine ⟨by show 2 ≤ sizeLine; omega, fun u o2 hu ho2 => k _ _ ((e1.trans e3).trans (same_upd hu)) ?_⟩
      have d4 : FDs K H3 [.str "first", .ref p] [.str "first", .tup [selR b kk, .str y, .int n, .bl fl]] 6 := .cons (.str (by decide +kernel) (by decide)) (.cons dt .nil)
      exact (d4.tupF hu ho2).lvl (by decide)
    | grp b y lo go hv =>
      obtain ⟨x, dx, v1, v2, v3, v4, v5, v6, v7, rfl, hx, d1, d2, d3, d4, d5, d6, d7⟩ := id qa
      have ty := TyX.base (K := K) (.ins hx T.iG.cl T.iG.ca T.iG.cn T.iG.ct T.iG.mo)
      refine ⟨_, rfl, .ref x, _, _, _, false, rfl, .own _, ty, T.kGS, _, rfl, iteF ?_⟩
      refine ⟨_, rfl, .ref x, _, _, _, false, rfl, .own _, ty, T.kGU, _, rfl, iteF ?_⟩
      refine ⟨_, rfl, .ref x, _, _, _, false, rfl, .own _, ty, T.kGF, _, rfl, iteF ?_⟩
      refine ⟨_, rfl, .ref x, _, _, _, true, rfl, .own _, ty, T.kGG, _, rfl, iteF ?_⟩
      refine ⟨_, rfl, x, CG, dx, _, _, rfl, hx, T.cG.cl, T.cG.na _ (by decide), rfl, ?_⟩
      refine ⟨_, rfl, x, CG, dx, _, _, rfl, hx, T.cG.cl, T.cG.na _ (by decide), rfl, ?_⟩
      refine ⟨_, rfl, x, CG, dx, _, _, rfl, hx, T.cG.cl, T.cG.na _ (by decide), rfl, ?_⟩
      refine ⟨_, rfl, x, CG, dx, _, _, rfl, hx, T.cG.cl, T.cG.na _ (by decide), rfl, ?_⟩
      refine ⟨_, rfl, x, CG, dx, _, _, rfl, hx, T.cG.cl, T.cG.na _ (by decide), rfl, ?_⟩
      refine ⟨_, rfl, x, CG, dx, _, _, rfl, hx, T.cG.cl, T.cG.na _ (by decide), rfl, ?_⟩
      refine ⟨by show 6 ≤ sizeLine; omega, fun p o hp ho => ?_⟩
      have e1 := same_upd (o := .frz o (.tup [v1, v2, v3, v4, v5, v6])) hp
      have t1 : SqT K (upd H p (.frz o (.tup [v1, v2, v3, v4, v5, v6]))) p [v1, v2, v3, v4, v5, v6] := .inl (.inr ⟨o, upd_same⟩)
      show tSeq _ _ _ _ (upd H p (.frz o (.tup [v1, v2, v3, v4, v5, v6])))
      generalize upd H p (.frz o (.tup [v1, v2, v3, v4, v5, v6])) = H1 at e1 t1 ⊢
      refine ⟨_, rfl, _, rfl, x, CG, dx, _, _, rfl, e1 _ _ hx, T.cG.cl, T.cG.na _ (by decide), rfl, ?_⟩
      refine ⟨by show 1 ≤ sizeLine; omega, fun p2 o2 hp2 ho2 => ?_⟩
      have e2 := same_upd (o := .frz o2 (.tup [v7])) hp2
      refine ⟨p, p2, [v1, v2, v3, v4, v5, v6], [v7], rfl, rfl, sameT e2 t1, .inl (.inr ⟨o2, upd_same⟩), by show 7 ≤ sizeLine; omega, (fun z => by cases z), (fun _ z => by cases z), fun _ _ => ?_⟩
      generalize upd H1 p2 (.frz o2 (.tup [v7])) = H2 at e2 ⊢
      have e02 := e1.trans e2
      refine fun p3 o3 hp3 ho3 => ?_
      have dd : FDs K H2 [v1, v2, v3, v4, v5, v6, v7] [usR b.us, csR y, whR b.wh, woR b.wo, optR lo, optR go, hvR hv] 4 :=
        .cons ((d1.sameF e02).lvl (by decide)) (.cons ((d2.sameF e02).lvl (by decide)) (.cons ((d3.sameF e02).lvl (by decide)) (.cons (d4.sameF e02) (.cons ((d5.sameF e02).lvl (by decide)) (.cons ((d6.sameF e02).lvl (by decide)) (.cons ((d7.sameF e02).lvl (by decide)) .nil))))))
      have dt := dd.tupF hp3 ho3
      have e3 := same_upd (o := .frz o3 (.tup [v1, v2, v3, v4, v5, v6, v7])) hp3
      refine ⟨by show 2 ≤ sizeLine; omega, fun u o4 hu ho4 => k _ _ ((e02.trans e3).trans (same_upd hu)) ?_⟩
      have d4 : FDs K _ [.str "groups", .ref p3] [.str "groups", .tup [usR b.us, csR y, whR b.wh, woR b.wo, optR lo, optR go, hvR hv]] 5 := .cons (.str (by decide +kernel) (by decide)) (.cons dt .nil)
      exact (d4.tupF hu ho4).lvl (by decide)
end
end Vm
/-! the law: what read_question returns, or its error -/
namespace Vm
open PySem PySem.Spec PyProof.Rows L2 TL
abbrev sLHeard : Stmt := top 70
/-- f(k=x) in a try -/
def tCallKS (sp : Sp) (gV : List V → List V → List V) (E : L2.St → XK) (tk : TA) : TE := fun σ H Q => tk σ H fun zs H2 => sp (gV [] zs) H2 Q (E σ)
section
variable {X : Cx} {CX : CXT} {k : Nat} {f : Addr} {fd : FuncData} {sp : Sp} {E : L2.St → XK} {kws : List Keyword} {x : Str} {p pos : Pos} {tk : TA} {ps ks : List Str} {gg : List Value → List Value → List Value} {gV : List V → List V → List V}
theorem pe_callKS (F : FnOk X.prog X.w X.K X.mg X.base CX k f fd ps sp) (hr : Room k X.A) (hg : Gl X x) (hm : X.mg x = some (.ref f)) (hk : PySem.W.keepIn X.K (.ref f) = true) (hb : KBinds X.K fd ps ks gg gV) (hx : ∀ σ, PassesAt CX X σ (E σ)) (hkw : PK X kws tk)
    (hall : (backToKw pos (keywordEach kws X.env)).all (·.1.isSome) = true := by rfl) (hks : (backToKw pos (keywordEach kws X.env)).filterMap (·.1) = ks := by rfl) (hdb : (x == ("__debug__" : Str)) = false := by decide)
    (hpl : ((backTo pos (starEach [] X.env)).any (·.1) || (backToKw pos (keywordEach kws X.env)).any (·.1.isNone)) = false := by rfl) :
    PE X (.Call (.Name x p) [] kws pos) (tCallKS sp gV E tk) := by
  refine ⟨fun pins s σ H Q I h => ?_⟩
  refine wpAny_Call_Name_kw (ld_glob I hg hm ?_ hdb)
  refine PySem.W.callWith_KW0 (first := []) (h₀ := X.base) I.ok.mod.kin hk hall (thn (hkw.run pos pins s σ H _ I h) fun ws s3 ⟨zs, H2, I3, rz, q2⟩ => ⟨I3.kIn, ?_⟩) hpl
  rw [hks]
  exact run_fnkS (us := []) (vs := []) F hr hb (hx σ) I3 .nil rz q2
end
abbrev kwT (vs zs : List V) : List V := match vs, zs with
  | [], [v] => [v]
  | _, _ => []
structure TxtY9 (K : PySem.W.Frag) (mg : Str → Option Value) (CE CQ tT : Addr) : Prop where
  gT : mg "TurnError" = some (.ref tT)
  gVE : mg "ValueError" = none
  gQ : mg "InvalidQuestion" = some (.ref CQ)
  xc : ExcC K CE
  em : PySem.W.exmOne K (.ref CE) (.ref CE) = some true
  k1 : PySem.W.kitOne K (.ref CE) (.ref tT) = some true
  k2 : PySem.W.kitOne K (.ref CE) (.type "ValueError") = some true
  k3 : PySem.W.kitOne K (.ref CE) (.ref CQ) = some false
def spHeard9 (K : PySem.W.Frag) : Sp := fun vs H Q _ => ∃ (v : V) (t : Tr) (n : Nat) (bs : List Addr) (fl : Bool), vs = [v, .bl fl] ∧ Dt K H v t n bs ∧ AskOk t ∧ ∀ H', Same H H' → Q (.str (toldQ t).text) H'
section
variable {P : Program} {w : World} {K : PySem.W.Frag} {mg : Str → Option Value} {base : Heap} {CS CU CF CG CE CQ tT fTd fRQ : Addr} {g : List Value → List Value → List Value}
abbrev nmHeard : List Str := ["_law_it", "_law_by_name", "_law_found", "e", "_law_is_own"]
theorem scLHeard : FnScope nmHeard ["_law_it", "_law_by_name"] (defScope sLHeard) := ⟨rfl, rfl, rfl, by decide +kernel, rfl, by decide +kernel, by decide +kernel⟩
theorem ok_lheard {f : Addr} {fd fdT fdR : FuncData} (F : Fun K "_law_heard" "_law_heard" sLHeard f fd) (isi : mg "isinstance" = none) (rp : mg "repr" = none) (Z : TxtX K mg CE) (Y : TxtY9 K mg CE CQ tT)
    (tw : ∀ t, AskOk t → (toldQ t).text.length ≤ sizeLine)
    (cR : Calls K mg "read_question" fRQ) (GR : FnOk P w K mg base (L2.CX P w) 8 fRQ fdR ["text"] (spReadQ K CS CU CF CG CE)) (bR : Binds K fdR ["text"] []) (kR : KBinds K fdR ["text"] ["text"] g kwT)
    (cT : Calls K mg "_law_told" fTd) (GT : FnOk P w K mg base CX0 2 fTd fdT ["_law_question"] (spTold K CS CU CF CG)) (bT : Binds K fdT ["_law_question"] []) :
    FnG P w K mg base CX0 9 f fd ["_law_it", "_law_by_name"] (spHeard9 K) := by
  refine okG0 F scLHeard (fun vs H Q E h => ?_) (fun cdv A outer s H vs Q E ag hr h => ?_)
  · obtain ⟨v, t, n, bs, fl, rfl, _⟩ := h
    rfl
  · obtain ⟨v, t, n, bs, fl, rfl, dv, tok, k⟩ := h
    have hu : (A.deeper (PyProof.Rows.envOfC "_law_heard" (defScope sLHeard) s.heap.objs.size f cdv)).units + 16 < cLine := by
      have := hr.units
      omega
    have hr2 : Room 2 _ := hr.mono (by decide)
    have big : sizeLine > 1000000 := by decide
    let is_ : Addr → V → TE := fun a c => tCB (rIsE K CE a) (tCons (tVar 3) (tCons (tC c) tNil))
    let th : Addr → Value → Option Addr → TS := fun a cls d D σ H => (cls = .ref CE ∧ d = none) ∧ tSeq (tAsg (tAndV (is_ a (.ref tT)) (tAndV (is_ a (.ty "ValueError")) (tNotV (is_ a (.ref CQ))))) (gName 4)) (tAsg (tIf (tB (tVar 4)) (tC .non) (tC (.str "odd"))) (gName 2)) D σ H
    let tb : WX → TS := fun Wx => tAsg (tCall (spTold K CS CU CF CG) [] E0 (tCons (tIf (tB (tVar 1)) (tCallKS (spReadQ K CS CU CF CG CE) kwT (WE Wx) (tCons (tVar 0) tNil)) (tCallS (spReadQ K CS CU CF CG CE) (WE Wx) (tCons (tVar 0) tNil))) tNil)) (gName 2)
    refine ⟨_, pss_cons (ps_set (i := 2) scLHeard.nd rfl (Or.inl rfl) pe_str)
      (pss_cons (ps_try_as (i := 3) (tb := tb) (ts := th) (Wout := fun _ _ _ _ => False) rfl rfl scLHeard.nd rfl rfl ⟨rfl, by decide, Or.inl Z.g⟩ takes0
        (fun Wx pn xe tk po => pss_one (ps_set (i := 2) scLHeard.nd rfl (Or.inl rfl) (by exact (pe_call GT hr2 rfl cT.g cT.k bT .nil pass0 (pa_cons (pe_ifExp (pt_val (pv 1))
            (pe_callKS GR hr rfl cR.g cR.k kR (fun σ => passAt tk σ) (pk_cons (pv 0) pk_nil)) (pe_callS GR hr rfl cR.g cR.k bR (fun σ => passAt tk σ) (pa_cons (pv 0) pa_nil))) pa_nil)))))
        (fun a oe cls d pn hz hf => pss_cond (c := cls = .ref CE ∧ d = none) (fun hc => by
          obtain ⟨rfl, rfl⟩ := hc
          exact pss_cons (ps_set (i := 4) scLHeard.nd rfl (Or.inl rfl) (by exact (pe_and
            (pe_callB (call_isE Y.xc hz hf) (by rfl) isi (by decide +kernel) (pa_cons (pv 3) (pa_cons (pe_glob (v := .ref tT) (by rfl) Y.gT rfl) pa_nil)))
            (pe_and (pe_callB (call_isE Y.xc hz hf) (by rfl) isi (by decide +kernel) (pa_cons (pv 3) (pa_cons (pe_bltn (v := .ty "ValueError") (by rfl) Y.gVE (by decide +kernel) rfl) pa_nil)))
            (pe_one (pe_not (pe_callB (call_isE Y.xc hz hf) (by rfl) isi (by decide +kernel) (pa_cons (pv 3) (pa_cons (pe_glob (v := .ref CQ) (by rfl) Y.gQ rfl) pa_nil)))))))))
            (pss_one (ps_set (i := 2) scLHeard.nd rfl (Or.inl rfl) (by exact (pe_ifExp (pt_val (pv 4)) pe_non pe_str)))))))
      (pss_one (ps_ret (pe_callB (call_reprT ag hu) (by rfl) rp (by decide +kernel) (pa_cons (pv 2) pa_nil))))), ?_⟩
    let D0 : Ends := { nx := tRet (tCB (rRepr K) (tCons (tVar 2) tNil)) { nx := fun _ H' => Q .non H', rt := Q }, rt := Q }
    have bad : qnOf t = none → ∀ H', Same H H' → wAs K (.ref CE) 3 th (fun _ _ _ _ => False) D0 (.ref CE) none [some v, some (.bl fl), some (.str "odd"), none, none] H' := fun nf H' s' => by
      refine ⟨true, Y.em, fun _ a ha => ⟨⟨rfl, rfl⟩, ?_⟩, fun q => nomatch q⟩
      refine ⟨_, rfl, .ref tT, .ref tT, true, rfl, fun u r => r, Y.k1, _, rfl, ?_⟩
      refine iteT ⟨_, rfl, .ty "ValueError", .type "ValueError", true, rfl, fun u r => r, Y.k2, _, rfl, ?_⟩
      refine iteT ⟨_, rfl, .ref CQ, .ref CQ, false, rfl, fun u r => r, Y.k3, _, rfl, ?_⟩
      refine ⟨_, rfl, _, rfl, ?_⟩
      refine iteT ?_
      have e : toldQ t = .non := by
        unfold toldQ
        rw [nf]
      rw [e] at k
      exact ⟨_, rfl, .non, .non, 0, [], rfl, .non, by decide, by decide +kernel, k H' s'⟩
    have good : ∀ q y H1, qnOf t = some q → Same H H1 → QAt K CS CU CF CG H1 y q → tCons (fun _ H2 Q2 => Q2 y H2) tNil [some v, some (.bl fl), some (.str "odd"), none, none] H1 fun vs H2 => spTold K CS CU CF CG (vs ++ []) H2 (fun x H3 => gName 2 x [some v, some (.bl fl), some (.str "odd"), none, none] H3 D0.nx) E0 := fun q y H1 eq s1 qa => by
      refine ⟨y, q, rfl, qa, fun v' H2 s2 d => ?_⟩
      have e : toldQ t = qnR q := by
        unfold toldQ
        rw [eq]
      obtain ⟨bs', d, _⟩ := d
      have l := tw t tok
      rw [e] at k l
      exact ⟨_, rfl, v', qnR q, 8, bs', rfl, d, by decide, l, k H2 (s1.trans s2)⟩
    refine ⟨_, rfl, fl, rfl, ?_⟩
    cases fl with
    | true =>
      refine iteT ?_
      refine ⟨_, rfl, ?_⟩
      dsimp only [tNil, kwT]
      refine ⟨v, t, n, bs, rfl, dv, tok, fun q eq y H1 s1 qa => ?_, fun nf H1 s1 => bad nf H1 s1⟩
      exact good q y H1 eq s1 qa
    | false =>
      refine iteF ?_
      refine ⟨_, rfl, ?_⟩
      dsimp only [tNil]
      refine ⟨v, t, n, bs, rfl, dv, tok, fun q eq y H1 s1 qa => ?_, fun nf H1 s1 => bad nf H1 s1⟩
      exact good q y H1 eq s1 qa
end
end Vm
/-! the law: right -/
namespace Vm
open PySem PySem.Spec PyProof.Rows L2 TL
abbrev sLRight : Stmt := top 71
def spRight9 (K : PySem.W.Frag) : Sp := fun vs H Q _ => ∃ (v : V) (t : Tr) (n : Nat) (bs : List Addr), vs = [v] ∧ Dt K H v t n bs ∧ n ≤ 8 ∧ t.text.length ≤ sizeLine ∧ AskOk t ∧ ∀ H', Same H H' → Q (.bl true) H'
section
variable {P : Program} {w : World} {K : PySem.W.Frag} {mg : Str → Option Value} {base : Heap} {fL fH : Addr}
theorem scLRight : FnScope ["_law_it", "_law_kept", "_law_due"] ["_law_it"] (defScope sLRight) := ⟨rfl, rfl, rfl, by decide +kernel, rfl, by decide +kernel, by decide +kernel⟩
theorem ok_lright {f : Addr} {fd fdL fdH : FuncData} (F : Fun K "_law_right" "_law_right" sLRight f fd) (rp : mg "repr" = none) (tw : ∀ t, AskOk t → (toldQ t).text.length ≤ sizeLine)
    (cL : Calls K mg "_law_read" fL) (GL : FnOk P w K mg base CX0 8 fL fdL ["_law_it"] (spLRead9 K)) (bL : Binds K fdL ["_law_it"] [])
    (cH : Calls K mg "_law_heard" fH) (GH : FnG P w K mg base CX0 9 fH fdH ["_law_it", "_law_by_name"] (spHeard9 K)) (bH : Binds K fdH ["_law_it", "_law_by_name"] []) :
    FnG P w K mg base CX0 10 f fd ["_law_it"] (spRight9 K) := by
  refine okG0 F scLRight (fun vs H Q E h => ?_) (fun cdv A outer s H vs Q E ag hr h => ?_)
  · obtain ⟨v, t, n, bs, rfl, _⟩ := h
    rfl
  · obtain ⟨v, t, n, bs, rfl, dv, hn, tx, tok, k⟩ := h
    have hu : (A.deeper (PyProof.Rows.envOfC "_law_right" (defScope sLRight) s.heap.objs.size f cdv)).units + 16 < cLine := by
      have := hr.units
      omega
    have hu8 : (A.deeper (PyProof.Rows.envOfC "_law_right" (defScope sLRight) s.heap.objs.size f cdv)).units + 8 < cLine := by omega
    have hr8 : Room 8 _ := hr.mono (by decide)
    have big : sizeLine > 10000000 := by decide
    refine ⟨_, pss_cons (ps_par (i := 1) (j := 2) rfl scLRight.nd rfl rfl (by decide) rfl rfl (pa_cons (pe_callB (call_reprT ag hu) (by rfl) rp (by decide +kernel) (pa_cons (pv 0) pa_nil))
        (pa_cons (pe_callB (call_reprT ag hu) (by rfl) rp (by decide +kernel) (pa_cons (pe_call GL hr8 rfl cL.g cL.k bL .nil pass0 (pa_cons (pv 0) pa_nil)) pa_nil)) pa_nil)) rfl)
      (pss_one (ps_ret (pe_cmpR (op_eqP hu8) (pe_lst (pa_cons (pe_callG GH ag hr rfl cH.g cH.k bH (pa_cons (pv 0) (pa_cons pe_bl pa_nil))) (pa_cons (pe_callG GH ag hr rfl cH.g cH.k bH (pa_cons (pv 0) (pa_cons pe_bl pa_nil)))
        (pa_cons (pe_callB (call_reprT ag hu) (by rfl) rp (by decide +kernel) (pa_cons (pv 0) pa_nil)) pa_nil)))) (pe_lst (pa_cons (pv 2) (pa_cons (pv 2) (pa_cons (pv 1) pa_nil)))) (nomark _)))), ?_⟩
    refine ⟨_, rfl, v, t, n, bs, rfl, dv, hn, tx, ?_⟩
    refine ⟨_, rfl, v, t, n, bs, rfl, dv, tok, fun u H1 s1 ⟨cs, d, _⟩ => ?_⟩
    refine ⟨u, toldQ t, 8, cs, rfl, d, by decide, tw t tok, ?_⟩
    refine ⟨_, _, rfl, ?_⟩
    refine ⟨_, rfl, v, t, n, bs, false, rfl, dv.same s1, tok, fun H2 s2 => ?_⟩
    have s02 := s1.trans s2
    refine ⟨_, rfl, v, t, n, bs, true, rfl, dv.same s02, tok, fun H3 s3 => ?_⟩
    have s03 := s02.trans s3
    refine ⟨_, rfl, v, t, n, bs, rfl, dv.same s03, hn, tx, ?_⟩
    refine ⟨by show 3 ≤ sizeLine; omega, fun p hp => ?_⟩
    have s4 := same_upd (o := .lst ([(toldQ t).text, (toldQ t).text, t.text].map V.str)) hp
    have e4 : upd H3 p (.lst ([(toldQ t).text, (toldQ t).text, t.text].map V.str)) p = some (.lst ([(toldQ t).text, (toldQ t).text, t.text].map V.str)) := upd_same
    show tCons _ _ _ (upd H3 p (.lst ([(toldQ t).text, (toldQ t).text, t.text].map V.str))) _
    generalize upd H3 p (.lst ([(toldQ t).text, (toldQ t).text, t.text].map V.str)) = H4 at s4 e4 ⊢
    refine ⟨_, rfl, _, rfl, _, rfl, by show 3 ≤ sizeLine; omega, fun p2 hp2 => ?_⟩
    have s5 := same_upd (o := .lst ([(toldQ t).text, (toldQ t).text, t.text].map V.str)) hp2
    have d2 := dpStrs K (upd H4 p2 (.lst ([(toldQ t).text, (toldQ t).text, t.text].map V.str))) [(toldQ t).text, (toldQ t).text, t.text]
    refine ⟨.list ([(toldQ t).text, (toldQ t).text, t.text].map PyData.str), .list ([(toldQ t).text, (toldQ t).text, t.text].map PyData.str), .lst (SqL.of (s5 _ _ e4)) (dpStrs K _ _), .lst (SqL.of upd_same) d2, plainStrs _, plainStrs _, by simp only [PyData.depth, depthStrs]; decide, ?_⟩
    have e : PyData.eqv (.list ([(toldQ t).text, (toldQ t).text, t.text].map PyData.str)) (.list ([(toldQ t).text, (toldQ t).text, t.text].map PyData.str)) = true := by
      show PyData.eqvAll _ _ = true
      rw [eqvStrs]
      exact decide_eq_true rfl
    have q : Q (.bl true) (upd H4 p2 (.lst ([(toldQ t).text, (toldQ t).text, t.text].map V.str))) := k _ ((s03.trans s4).trans s5)
    rw [← e] at q
    exact q
end
end Vm
/-! texts put together -/
namespace Vm
open PySem PySem.Spec PyProof.Rows L2 TL
theorem infix_app {α : Type} {a b q : List α} (h : q <:+: a ++ b) : ∃ q1 q2, q = q1 ++ q2 ∧ q1 <:+: a ∧ q2 <:+: b := by
  obtain ⟨s, t, e⟩ := h
  rw [List.append_assoc] at e
  rcases List.append_eq_append_iff.mp e with ⟨c, e1, e2⟩ | ⟨c, e1, e2⟩
  · -- s ends in a
    rcases List.append_eq_append_iff.mp e2 with ⟨d, e3, e4⟩ | ⟨d, e3, e4⟩
    · exact ⟨q, [], (List.append_nil q).symm, ⟨s, d, by rw [e1, e3, List.append_assoc]⟩, ⟨[], b, rfl⟩⟩
    · exact ⟨c, d, e3, ⟨s, [], by rw [e1, List.append_nil]⟩, ⟨[], t, by rw [e4]; rfl⟩⟩
  · exact ⟨[], q, rfl, ⟨[], a, rfl⟩, ⟨c, t, by rw [e2, List.append_assoc]⟩⟩
theorem NumRun.app {N M : Nat} {a b : List Nat} (h1 : NumRun N a) (h2 : NumRun M b) : NumRun (N + M) (a ++ b) := fun q i d => by
  obtain ⟨q1, q2, rfl, i1, i2⟩ := infix_app i
  have a1 := h1 q1 i1 fun c m => d c (List.mem_append_left _ m)
  have a2 := h2 q2 i2 fun c m => d c (List.mem_append_right _ m)
  rw [List.length_append]
  omega
theorem infix_cut {α : Type} {a b q : List α} {c : α} (h : q <:+: a ++ c :: b) (n : c ∉ q) : q <:+: a ∨ q <:+: b := by
  obtain ⟨s, t, e⟩ := h
  rcases List.append_eq_append_iff.mp e with ⟨d, e1, e2⟩ | ⟨d, e1, e2⟩
  · exact .inl ⟨s, d, e1.symm⟩
  · cases d with
    | nil =>
      rw [List.append_nil] at e1
      exact .inl ⟨s, [], by rw [e1, List.append_nil]⟩
    | cons x d' =>
      injection e2 with e3 e4
      subst e3
      rcases List.append_eq_append_iff.mp e1 with ⟨f, e5, e6⟩ | ⟨f, e5, e6⟩
      · exact absurd (by rw [e6]; simp) n
      · cases f with
        | nil =>
          have e7 : q = c :: d' := e6.symm
          exact absurd (by rw [e7]; simp) n
        | cons y f' =>
          injection e6 with e8 e9
          exact .inr ⟨f', t, by rw [e4, e9]; rfl⟩
/-- a sign between that no integer has -/
theorem NumRun.cut {N : Nat} {a b : List Nat} {s : Nat} (h1 : NumRun N a) (h2 : NumRun N b) (ns : ¬ dm s) : NumRun N (a ++ s :: b) := fun q i d => by
  rcases infix_cut i fun m => ns (d s m) with i | i
  · exact h1 q i d
  · exact h2 q i d
theorem NumRun.nil (N : Nat) : NumRun N [] := fun q i _ => by
  rw [List.eq_nil_of_infix_nil i]
  exact Nat.zero_le _
theorem NumRun.none {l : List Nat} (h : ∀ c ∈ l, ¬ dm c) (N : Nat) : NumRun N l := fun q i d => by
  cases q with
  | nil => exact Nat.zero_le _
  | cons c r => exact absurd (d c List.mem_cons_self) (h c (i.subset List.mem_cons_self))
theorem NumRun.all (l : List Nat) : NumRun l.length l := fun _ i _ => infix_len i
theorem TxOk.mono {L N M L' N' M' : Nat} {x : Str} (h : TxOk L N M x) (a : L ≤ L') (b : N ≤ N') (c : M ≤ M') : TxOk L' N' M' x :=
  ⟨Nat.le_trans h.len a, h.asc, h.run.mono b, Nat.le_trans h.nls c, Nat.le_trans h.cms b⟩
/-- two texts put together -/
theorem TxOk.app {L N M L' N' M' : Nat} {x y : Str} (h1 : TxOk L N M x) (h2 : TxOk L' N' M' y) : TxOk (L + L') (N + N') (M + M') (x ++ y) := by
  have e : tl (x ++ y) = tl x ++ tl y := tl_append x y
  refine ⟨?_, fun c m => ?_, ?_, ?_, ?_⟩
  · have a := h1.len
    have b := h2.len
    rw [len_tl] at a b ⊢
    rw [e, List.length_append]
    omega
  · rw [e] at m
    rcases List.mem_append.mp m with m | m
    · exact h1.asc c m
    · exact h2.asc c m
  · rw [e]
    exact h1.run.app h2.run
  · rw [e, List.count_append]
    have a := h1.nls
    have b := h2.nls
    omega
  · rw [e, List.count_append]
    have a := h1.cms
    have b := h2.cms
    omega
end Vm
/-! how long texts are, when words and lines are changed -/
namespace Vm
open PySem PySem.Spec PyProof.Rows L2 TL
/-- a text: length, runs of digits, commas, line feeds -/
structure TxC (L R C M : Nat) (x : Str) : Prop where
  len : x.length ≤ L
  asc : ∀ c ∈ tl x, c < 128
  run : NumRun R (tl x)
  cms : (tl x).count 44 ≤ C
  nls : (tl x).count 10 ≤ M
theorem TxC.ok {L R C M N : Nat} {x : Str} (h : TxC L R C M x) (a : R ≤ N) (b : C ≤ N) : TxOk L N M x := ⟨h.len, h.asc, h.run.mono a, h.nls, Nat.le_trans h.cms b⟩
theorem TxC.mono {L R C M L' R' C' M' : Nat} {x : Str} (h : TxC L R C M x) (a : L ≤ L') (b : R ≤ R') (c : C ≤ C') (d : M ≤ M') : TxC L' R' C' M' x :=
  ⟨Nat.le_trans h.len a, h.asc, h.run.mono b, Nat.le_trans h.cms c, Nat.le_trans h.nls d⟩
theorem TxC.sub {L R C M : Nat} {x p : Str} (h : TxC L R C M x) (s : tl p <:+: tl x) : TxC L R C M p := by
  refine ⟨?_, fun c m => h.asc c (s.subset m), h.run.sub s, Nat.le_trans (infix_count s 44) h.cms, Nat.le_trans (infix_count s 10) h.nls⟩
  have a := infix_len s
  have b := h.len
  rw [len_tl] at b ⊢
  omega
theorem TxC.app {L R C M l r c m : Nat} {x y : Str} (h : TxC L R C M x) (g : TxC l r c m y) : TxC (L + l) (R + r) (C + c) (M + m) (x ++ y) := by
  have e : tl (x ++ y) = tl x ++ tl y := tl_append x y
  have a := h.len
  have b := g.len
  refine ⟨?_, fun k hk => ?_, ?_, ?_, ?_⟩
  · rw [len_tl] at a b ⊢
    rw [e, List.length_append]
    omega
  · rw [e] at hk
    exact (List.mem_append.mp hk).elim (h.asc k) (g.asc k)
  · rw [e]
    exact h.run.app g.run
  · rw [e, List.count_append]
    exact Nat.add_le_add h.cms g.cms
  · rw [e, List.count_append]
    exact Nat.add_le_add h.nls g.nls
/-! measures of joined texts -/
/-- the measure of words put together -/
def sumM (μ : List Nat → Nat) (y : Str) (ws : List Str) : Nat := (ws.map fun w => μ (tl w) + μ (tl y)).sum
theorem joinL_m {μ : List Nat → Nat} (add : ∀ a b, μ (a ++ b) = μ a + μ b) (S : List Nat) : ∀ {ps : List (List Nat)}, ps ≠ [] → μ (joinL S ps) + μ S = (ps.map fun p => μ p + μ S).sum
  | [], h => absurd rfl h
  | [p], _ => by
    show μ p + μ S = (μ p + μ S) + 0
    omega
  | p :: q :: r, _ => by
    have ih := joinL_m add S (ps := q :: r) (by simp)
    show μ (p ++ (S ++ joinL S (q :: r))) + μ S = (μ p + μ S) + ((q :: r).map fun p => μ p + μ S).sum
    rw [add, add]
    omega
theorem join_m {μ : List Nat → Nat} (add : ∀ a b, μ (a ++ b) = μ a + μ b) (y : Str) {ws : List Str} (ne : ws ≠ []) : μ (tl (Txt.join y ws)) + μ (tl y) = sumM μ y ws := by
  have e := joinL_m add (tl y) (ps := ws.map tl) (by simpa using ne)
  rw [join_eq, tl_join, e, List.map_map]
  rfl
theorem split_ne {x y : Str} {s : Nat} (ey : tl y = [s]) (ks : s < 256) : Txt.split x y ≠ [] := fun z => by
  have e := cut_count (x := x) ey ks
  rw [z] at e
  cases e
theorem split_m {μ : List Nat → Nat} (add : ∀ a b, μ (a ++ b) = μ a + μ b) {x y : Str} {s : Nat} (ey : tl y = [s]) (ks : s < 256) : sumM μ y (Txt.split x y) = μ (tl x) + μ (tl y) := by
  rw [← join_m add y (split_ne ey ks), join_eq, StrLaws.join_split]
theorem len_add (a b : List Nat) : (a ++ b).length = a.length + b.length := List.length_append
theorem cnt_add (k : Nat) (a b : List Nat) : (a ++ b).count k = a.count k + b.count k := List.count_append
/-- a separator -/
structure SepOk (y : Str) (s : Nat) : Prop where
  e : tl y = [s]
  l : s < 128
  n : ¬ dm s
theorem sep_nl : SepOk "\n" 10 := ⟨nl_tl, by decide, fun h => by unfold dm at h; omega⟩
theorem sep_sp : SepOk " " 32 := ⟨sp_tl, by decide, fun h => by unfold dm at h; omega⟩
theorem sep_cm : SepOk "," 44 := ⟨cm_tl, by decide, fun h => by unfold dm at h; omega⟩
/-- words, put together -/
structure WsC (y : Str) (L R C M : Nat) (ws : List Str) : Prop where
  len : sumM List.length y ws ≤ L + (tl y).length
  asc : ∀ w ∈ ws, ∀ c ∈ tl w, c < 128
  run : ∀ w ∈ ws, NumRun R (tl w)
  cms : sumM (List.count 44) y ws ≤ C + (tl y).count 44
  nls : sumM (List.count 10) y ws ≤ M + (tl y).count 10
theorem joinL_run {R s : Nat} (n : ¬ dm s) : ∀ {ps : List (List Nat)}, (∀ p ∈ ps, NumRun R p) → NumRun R (joinL [s] ps)
  | [], _ => NumRun.nil R
  | [p], h => h p List.mem_cons_self
  | p :: q :: r, h => by
    have ih := joinL_run n (ps := q :: r) fun p m => h p (List.mem_cons_of_mem _ m)
    show NumRun R (p ++ ([s] ++ joinL [s] (q :: r)))
    exact (h p List.mem_cons_self).cut ih n
theorem WsC.join {y : Str} {s L R C M : Nat} {ws : List Str} (sp : SepOk y s) (h : WsC y L R C M ws) : TxC L R C M (Txt.join y ws) := by
  cases ws with
  | nil => exact ⟨Nat.zero_le _, (fun _ m => nomatch m), NumRun.nil R, Nat.zero_le _, Nat.zero_le _⟩
  | cons w ws =>
    have a := join_m len_add y (ws := w :: ws) (by simp)
    have b := join_m (cnt_add 44) y (ws := w :: ws) (by simp)
    have c := join_m (cnt_add 10) y (ws := w :: ws) (by simp)
    have h1 := h.len
    have h2 := h.cms
    have h3 := h.nls
    refine ⟨?_, fun k m => ?_, ?_, by omega, by omega⟩
    · rw [len_tl]
      omega
    · rcases join_mem m with z | ⟨p, mp, z⟩
      · rw [sp.e] at z
        rw [List.mem_singleton.mp z]
        exact sp.l
      · exact h.asc p mp k z
    · rw [join_eq, tl_join, sp.e]
      exact joinL_run sp.n fun p m => by
        obtain ⟨w', mw, rfl⟩ := List.mem_map.mp m
        exact h.run w' mw
theorem TxC.split {y x : Str} {s L R C M : Nat} (sp : SepOk y s) (h : TxC L R C M x) : WsC y L R C M (Txt.split x y) := by
  have k : s < 256 := Nat.lt_trans sp.l (by decide)
  have sub := cut_infix (x := x) sp.e k
  have a := split_m len_add (x := x) sp.e k
  have b := split_m (cnt_add 44) (x := x) sp.e k
  have c := split_m (cnt_add 10) (x := x) sp.e k
  have h1 := h.len
  have h2 := h.cms
  have h3 := h.nls
  rw [len_tl] at h1
  exact ⟨by omega, fun w m c z => h.asc c ((sub w m).subset z), fun w m => h.run.sub (sub w m), by omega, by omega⟩
/-! parts of lists -/
/-- as much as in ws at most, and from it -/
def SubW (us ws : List Str) : Prop := (∀ f : Str → Nat, (us.map f).sum ≤ (ws.map f).sum) ∧ ∀ w ∈ us, w ∈ ws
theorem WsC.sub {y : Str} {L R C M : Nat} {us ws : List Str} (h : WsC y L R C M ws) (s : SubW us ws) : WsC y L R C M us :=
  ⟨Nat.le_trans (s.1 _) h.len, fun w m => h.asc w (s.2 w m), fun w m => h.run w (s.2 w m), Nat.le_trans (s.1 _) h.cms, Nat.le_trans (s.1 _) h.nls⟩
theorem WsC.cons {y : Str} {L R C M l r c m : Nat} {w : Str} {ws : List Str} (h : WsC y L R C M ws) (g : TxC l r c m w) : WsC y (L + l + (tl y).length) (max R r) (C + c + (tl y).count 44) (M + m + (tl y).count 10) (w :: ws) := by
  have h1 := h.len
  have h2 := h.cms
  have h3 := h.nls
  have g1 := g.len
  have g2 := g.cms
  have g3 := g.nls
  rw [len_tl] at g1
  refine ⟨?_, fun x mx => ?_, fun x mx => ?_, ?_, ?_⟩
  · show ((tl w).length + (tl y).length) + sumM List.length y ws ≤ _
    omega
  · rcases List.mem_cons.mp mx with e | mx
    · rw [e]; exact g.asc
    · exact h.asc x mx
  · rcases List.mem_cons.mp mx with e | mx
    · rw [e]; exact g.run.mono (Nat.le_max_right _ _)
    · exact (h.run x mx).mono (Nat.le_max_left _ _)
  · show ((tl w).count 44 + (tl y).count 44) + sumM (List.count 44) y ws ≤ _
    omega
  · show ((tl w).count 10 + (tl y).count 10) + sumM (List.count 10) y ws ≤ _
    omega
theorem WsC.nil (y : Str) : WsC y 0 0 0 0 [] := ⟨Nat.zero_le _, (fun _ m => nomatch m), (fun _ m => nomatch m), Nat.zero_le _, Nat.zero_le _⟩
theorem sum_app (f : Str → Nat) (a b : List Str) : ((a ++ b).map f).sum = (a.map f).sum + (b.map f).sum := by
  rw [List.map_append, List.sum_append]
theorem sum_cut (f : Str → Nat) (k : Nat) (ws : List Str) : ((ws.take k).map f).sum + ((ws.drop k).map f).sum = (ws.map f).sum := by
  rw [← sum_app, List.take_append_drop]
theorem sum_drop (f : Str → Nat) (j k : Nat) (ws : List Str) (h : j ≤ k) : ((ws.drop k).map f).sum ≤ ((ws.drop j).map f).sum := by
  have e := sum_cut f (k - j) (ws.drop j)
  rw [List.drop_drop, show j + (k - j) = k by omega] at e
  omega
theorem sum_rev (f : Str → Nat) : ∀ ws : List Str, (ws.reverse.map f).sum = (ws.map f).sum
  | [] => rfl
  | w :: ws => by
    rw [List.reverse_cons, sum_app, sum_rev f ws]
    show _ + (f w + 0) = f w + (ws.map f).sum
    omega
/-- a word goes -/
theorem subw_drop (k : Nat) (ws : List Str) : SubW (ws.take k ++ ws.drop (k + 1)) ws := by
  refine ⟨fun f => ?_, fun w m => ?_⟩
  · have a := sum_cut f k ws
    have b := sum_drop f k (k + 1) ws (by omega)
    rw [sum_app]
    omega
  · exact (List.mem_append.mp m).elim List.mem_of_mem_take List.mem_of_mem_drop
/-- a word comes in the place of j words -/
theorem subw_put (k j : Nat) (p : Str) (ws : List Str) : SubW (ws.take k ++ [p] ++ ws.drop (k + j)) (p :: ws) := by
  refine ⟨fun f => ?_, fun w m => ?_⟩
  · have a := sum_cut f k ws
    have b := sum_drop f k (k + j) ws (by omega)
    rw [sum_app, sum_app]
    show _ + (f p + 0) + _ ≤ f p + (ws.map f).sum
    omega
  · rcases List.mem_append.mp m with m | m
    · rcases List.mem_append.mp m with m | m
      · exact List.mem_cons_of_mem _ (List.mem_of_mem_take m)
      · rw [List.mem_singleton.mp m]
        exact List.mem_cons_self
    · exact List.mem_cons_of_mem _ (List.mem_of_mem_drop m)
/-- some words turned round -/
theorem subw_turn (k j : Nat) (ws : List Str) : SubW (ws.take k ++ ((ws.drop k).take j).reverse ++ ws.drop (k + j)) ws := by
  refine ⟨fun f => ?_, fun w m => ?_⟩
  · have a := sum_cut f k ws
    have b := sum_cut f j (ws.drop k)
    rw [List.drop_drop] at b
    rw [sum_app, sum_app, sum_rev]
    omega
  · rcases List.mem_append.mp m with m | m
    · rcases List.mem_append.mp m with m | m
      · exact List.mem_of_mem_take m
      · exact List.mem_of_mem_drop (List.mem_of_mem_take (List.mem_reverse.mp m))
    · exact List.mem_of_mem_drop m
theorem subw_swap (k : Nat) (ws : List Str) : SubW (ws.drop k ++ ws.take k) ws := by
  refine ⟨fun f => ?_, fun w m => ?_⟩
  · have a := sum_cut f k ws
    rw [sum_app]
    omega
  · exact (List.mem_append.mp m).elim List.mem_of_mem_drop List.mem_of_mem_take
theorem subw_refl (ws : List Str) : SubW ws ws := ⟨fun _ => Nat.le_refl _, fun _ m => m⟩
/-- a line has no line feed -/
theorem line_nls {x l : Str} {L R C M : Nat} (h : TxC L R C M x) (m : l ∈ Txt.split x "\n") : TxC L R C 0 l := by
  have s := h.sub (cut_infix nl_tl (by decide) l m)
  refine ⟨s.len, s.asc, s.run, s.cms, ?_⟩
  have a := split_m (cnt_add 10) (x := x) nl_tl (by decide)
  have b := cut_count (x := x) nl_tl (by decide)
  have c : sumM (List.count 10) "\n" (Txt.split x "\n") = ((Txt.split x "\n").map fun w => (tl w).count 10).sum + (Txt.split x "\n").length := by
    have one : (tl ("\n" : Str)).count 10 = 1 := by rw [nl_tl]; rfl
    unfold sumM
    rw [one]
    generalize Txt.split x "\n" = ws
    induction ws with
    | nil => rfl
    | cons w ws ih =>
      show ((tl w).count 10 + 1) + (ws.map fun w => (tl w).count 10 + 1).sum = ((tl w).count 10 + (ws.map fun w => (tl w).count 10).sum) + (ws.length + 1)
      omega
  have one : (tl ("\n" : Str)).count 10 = 1 := by rw [nl_tl]; rfl
  have z : ((Txt.split x "\n").map fun w => (tl w).count 10).sum = 0 := by omega
  have le : ∀ (ws : List Str), l ∈ ws → (tl l).count 10 ≤ (ws.map fun w => (tl w).count 10).sum := by
    intro ws
    induction ws with
    | nil => exact fun m => nomatch m
    | cons w ws ih =>
      intro m
      show _ ≤ (tl w).count 10 + (ws.map fun w => (tl w).count 10).sum
      rcases List.mem_cons.mp m with e | m
      · rw [e]; omega
      · have := ih m; omega
  have := le _ m
  omega
/-! written texts -/
def dmB (c : Nat) : Bool := c == 45 || (decide (48 ≤ c) && decide (c ≤ 57))
theorem dmB_iff (c : Nat) : dmB c = true ↔ dm c := by
  unfold dmB dm
  rw [Bool.or_eq_true, beq_iff_eq, Bool.and_eq_true, decide_eq_true_iff, decide_eq_true_iff]
/-- no run is longer than R, k signs of one ahead -/
def runB (R : Nat) : Nat → List Nat → Bool
  | _, [] => true
  | k, c :: r => if dmB c = true then decide (k + 1 ≤ R) && runB R (k + 1) r else runB R 0 r
theorem runB_run {R : Nat} : ∀ {l : List Nat} {k : Nat}, k ≤ R → runB R k l = true → NumRun R l ∧ ∀ q, q <+: l → (∀ c ∈ q, dm c) → k + q.length ≤ R
  | [], k, hk, _ => ⟨NumRun.nil R, fun q p _ => by
    rw [List.prefix_nil.mp p]
    exact hk⟩
  | c :: r, k, hk, h => by
    unfold runB at h
    split at h
    · rename_i d
      rw [Bool.and_eq_true, decide_eq_true_iff] at h
      obtain ⟨a, b⟩ := runB_run h.1 h.2
      have pre : ∀ q, q <+: c :: r → (∀ c ∈ q, dm c) → k + q.length ≤ R := fun q p al => by
        cases q with
        | nil => exact hk
        | cons e q =>
          have p' := (List.cons_prefix_cons.mp p).2
          have := b q p' fun x m => al x (List.mem_cons_of_mem _ m)
          rw [List.length_cons]
          omega
      refine ⟨fun q i al => ?_, pre⟩
      rcases List.infix_cons_iff.mp i with p | i
      · have := pre q p al
        omega
      · exact a q i al
    · rename_i d
      obtain ⟨a, b⟩ := runB_run (Nat.zero_le R) h
      have pre : ∀ q, q <+: c :: r → (∀ c ∈ q, dm c) → q = [] := fun q p al => by
        cases q with
        | nil => rfl
        | cons e q =>
          have e1 := (List.cons_prefix_cons.mp p).1
          exact absurd ((dmB_iff c).mpr (e1 ▸ al e List.mem_cons_self)) d
      refine ⟨fun q i al => ?_, fun q p al => ?_⟩
      · rcases List.infix_cons_iff.mp i with p | i
        · rw [pre q p al]
          exact Nat.zero_le _
        · exact a q i al
      · rw [pre q p al]
        exact hk
def txB (L R C M : Nat) (x : Str) : Bool := decide ((tl x).length ≤ L) && ((tl x).all (fun c => decide (c < 128)) && (runB R 0 (tl x) && (decide ((tl x).count 44 ≤ C) && decide ((tl x).count 10 ≤ M))))
theorem txB_ok {L R C M : Nat} {x : Str} (h : txB L R C M x = true) : TxC L R C M x := by
  unfold txB at h
  simp only [Bool.and_eq_true, decide_eq_true_iff, List.all_eq_true] at h
  obtain ⟨a, b, c, d, e⟩ := h
  exact ⟨by rw [len_tl]; exact a, b, (runB_run (Nat.zero_le R) c).1, d, e⟩
end Vm
/-! the text of what is told is not too long -/
namespace Vm
open PySem PySem.Spec PyProof.Rows L2 TL
theorem wd_text {x : Str} (h : WdOk x) : (reprText x).length ≤ 10 * x.length + 2 := StrLaws.reprText_len x fun c m => Nat.lt_of_lt_of_le (h.asc c m) (by decide)
theorem col_len {x : Str} (h : colB x = true) : x.length ≤ 17 := by
  unfold colB at h
  rw [Bool.and_eq_true, decide_eq_true_iff, List.all_eq_true] at h
  obtain ⟨l2, al⟩ := h
  have e := split_m (μ := List.length) len_add (x := x) dot_tl (by decide)
  rw [dot_tl] at e
  match q : Txt.split x ".", l2 with
  | [a, b], _ =>
    rw [q] at e al
    have ha := (nm_text (al a (by simp))).2
    have hb := (nm_text (al b (by simp))).2
    have e : ((tl a).length + (tl ("." : Str)).length) + (((tl b).length + (tl ("." : Str)).length) + 0) = (tl x).length + 1 := e
    rw [dot_tl] at e
    rw [len_tl] at ha hb ⊢
    have l1 : ([46] : List Nat).length = 1 := rfl
    omega
theorem col_text {x : Str} (h : WdOk x) (c : colB x = true) : (reprText x).length ≤ 172 := by
  have a := wd_text h
  have b := col_len c
  omega
theorem farOk9 {i : Int} (h : i.natAbs < 10 ^ 250) : i.natAbs.log2 < 1920 ∧ (Str.ofString (toString i)).length ≤ 300 := by
  refine ⟨?_, ?_⟩
  · by_cases h0 : i.natAbs = 0
    · rw [h0]
      decide
    · exact (Nat.log2_lt h0).mpr (Nat.lt_of_lt_of_le h (by decide +kernel))
  · rw [PySem.ofString_length]
    have e := int_text_length_le10 (k := 250) (by decide) h
    omega
theorem num_text {x : Str} (h : WdOk x) (n : numW x = true) : (Tr.int (intW x)).w ≤ 300 := (farOk9 (num_int n (h.num n)).2).2
theorem op4_text {o : Str} (h : o ∈ ops4) : (reprText o).length ≤ 30 := by
  have z : ∀ o ∈ ops4, (reprText o).length ≤ 30 := by decide +kernel
  exact z o h
theorem op2_text {o : Str} (h : o ∈ ops2) : (reprText o).length ≤ 30 := by
  have z : ∀ o ∈ ops2, (reprText o).length ≤ 30 := by decide +kernel
  exact z o h
theorem meas_text {o : Str} (h : o ∈ meas) : (reprText o).length ≤ 30 := by
  have z : ∀ o ∈ meas, (reprText o).length ≤ 30 := by decide +kernel
  exact z o h
theorem use_w {t : List Str} {u : Use} (h : useT t = some u) : (useR u).w ≤ 600 := by
  unfold useT at h
  split at h
  · rename_i t0 w0 al
    split at h
    · rename_i z
      rw [← Option.some.inj h]
      have a := (nm_text z.2.1).1
      have b := (nm_text z.2.2).1
      show 3 + (((reprText al).length + 2) + (((reprText t0).length + 2) + 0)) ≤ 600
      omega
    · cases h
  · cases h
theorem cnd_w {t : List Str} {c : Cnd} (ok : ∀ x ∈ t, WdOk x) (h : condT t = some c) : (cndR c).w ≤ 600 := by
  unfold condT at h
  split at h
  · rename_i a o d
    split at h
    · rename_i z
      have oa := col_text (ok a (by simp)) z.1
      have oo := op4_text z.2
      have od := ok d (by simp)
      cases e : opdT d with
      | none =>
        rw [e] at h
        cases h
      | some y =>
        rw [e] at h
        rw [← Option.some.inj h]
        have ly : (opdR y).w ≤ 300 := by
          unfold opdT at e
          split at e
          · rename_i q
            rw [← Option.some.inj e]
            show (reprText d).length ≤ 300
            rw [Bool.or_eq_true] at q
            rcases q with q | q
            · have := (nm_text q).1
              omega
            · have := col_text od q
              omega
          · split at e
            · rename_i q
              rw [← Option.some.inj e]
              exact num_text od q
            · cases e
        show 3 + (((reprText a).length + 2) + (((reprText o).length + 2) + (((opdR y).w + 2) + 0))) ≤ 600
        omega
    · cases h
  · cases h
theorem bnd_w {t : List Str} {c : Bnd} (ok : ∀ x ∈ t, WdOk x) (h : bndT t = some c) : (bndR c).w ≤ 600 := by
  unfold bndT at h
  split at h
  · rename_i a o d
    split at h
    · rename_i z
      rw [← Option.some.inj h]
      have oa := meas_text z.1
      have oo := op2_text z.2.1
      have od := num_text (ok d (by simp)) z.2.2
      show 3 + (((reprText a).length + 2) + (((reprText o).length + 2) + (((Tr.int (intW d)).w + 2) + 0))) ≤ 600
      omega
    · cases h
  · cases h
theorem colT_w {t : List Str} {c : Str} (ok : ∀ x ∈ t, WdOk x) (h : colT t = some c) : (Tr.str c).w ≤ 600 := by
  unfold colT at h
  split at h
  · rename_i a
    split at h
    · rename_i z
      rw [← Option.some.inj h]
      have oa := col_text (ok a (by simp)) z
      show (reprText a).length ≤ 600
      omega
    · cases h
  · cases h
theorem mapM_mem {α β : Type} {f : α → Option β} : ∀ {xs : List α} {ys : List β} {y : β}, xs.mapM f = some ys → y ∈ ys → ∃ x ∈ xs, f x = some y
  | [], ys, y, h, m => by
    rw [List.mapM_nil] at h
    rw [← Option.some.inj h] at m
    cases m
  | x :: r, ys, y, h, m => by
    rw [List.mapM_cons] at h
    cases e : f x with
    | none =>
      rw [e] at h
      cases h
    | some z =>
      rw [e] at h
      cases e2 : r.mapM f with
      | none =>
        rw [e2] at h
        cases h
      | some zs =>
        rw [e2] at h
        rw [← Option.some.inj h] at m
        rcases List.mem_cons.mp m with q | q
        · exact ⟨x, List.mem_cons_self, by rw [e, q]⟩
        · obtain ⟨x', m', e'⟩ := mapM_mem e2 q
          exact ⟨x', List.mem_cons_of_mem _ m', e'⟩
theorem list_w {α : Type} {g : α → Tr} {c : Nat} : ∀ {xs : List α}, (∀ x ∈ xs, (g x).w ≤ c) → ws (xs.map g) ≤ (c + 2) * xs.length
  | [], _ => Nat.zero_le _
  | x :: r, h => by
    have a := h x List.mem_cons_self
    have b := list_w (xs := r) fun y m => h y (List.mem_cons_of_mem _ m)
    show ((g x).w + 2) + ws (r.map g) ≤ (c + 2) * (r.length + 1)
    rw [Nat.mul_succ]
    omega
/-- a list of entries: at most 602 for each -/
theorem ents_w {α : Type} {f : List Str → Option α} {g : α → Tr} {wl : List Str} {n a b : Nat} {xs : List α} (sm : SmQ wl) (hn : 0 < n) (hw : ∀ t v, (∀ x ∈ t, WdOk x) → f t = some v → (g v).w ≤ 600) (h : ents f wl n a = some (xs, b)) : ws (xs.map g) ≤ 602 * xs.length ∧ a + n * xs.length = b ∧ b ≤ wl.length := by
  have on := ents_on hn (Nat.lt_succ_self _) h
  refine ⟨list_w fun v m => ?_, on.1, on.2.1⟩
  rw [ents_of f wl hn] at h
  cases e : ents some wl n a with
  | none =>
    rw [e] at h
    cases h
  | some p =>
    obtain ⟨ts, b'⟩ := p
    rw [e] at h
    dsimp only at h
    cases e2 : ts.mapM f with
    | none =>
      rw [e2] at h
      cases h
    | some us =>
      rw [e2] at h
      have h := Option.some.inj h
      injection h with h1 _
      subst h1
      obtain ⟨t, mt, ft⟩ := mapM_mem e2 m
      exact hw t v (fun x mx => sm.part x ((ents_part hn (Nat.lt_succ_self _) e t mt).2 x mx)) ft
theorem usT_w {wl : List Str} {a b : Nat} {us : List Use} (sm : SmQ wl) (h : usT wl a = some (us, b)) : (usR us).w ≤ 3 + 602 * us.length ∧ a + 3 * us.length = b ∧ b ≤ wl.length := by
  obtain ⟨e1, e2, e3⟩ := ents_w (g := useR) sm (by decide) (fun t v _ e => use_w e) h
  refine ⟨?_, e2, e3⟩
  show 3 + ws (us.map useR) ≤ _
  omega
theorem whT_w {wl : List Str} {a b : Nat} {wh : List Cnd} (sm : SmQ wl) (la : a ≤ wl.length) (h : whT wl a = some (wh, b)) : (whR wh).w ≤ 3 + 602 * wh.length ∧ a + 3 * wh.length ≤ b ∧ b ≤ wl.length := by
  have on := whT_on la h
  unfold whT at h
  split at h
  · obtain ⟨e1, _⟩ := ents_w (g := cndR) sm (by decide) (fun t v ok e => cnd_w ok e) h
    refine ⟨?_, on.1, on.2⟩
    show 3 + ws (wh.map cndR) ≤ _
    omega
  · have h := Option.some.inj h
    injection h with h1 _
    subst h1
    exact ⟨by decide, on.1, on.2⟩
theorem wo1_w {wl : List Str} {a b : Nat} {p : List Use × List Cnd} (sm : SmQ wl) (h : wo1 wl a = some (p, b)) : (usR p.1).w + (whR p.2).w ≤ 6 + 602 * (b - a) ∧ a < b ∧ b ≤ wl.length := by
  have on := wo1_on h
  unfold wo1 at h
  cases e : usT wl a with
  | none =>
    rw [e] at h
    cases h
  | some q =>
    obtain ⟨us, c⟩ := q
    rw [e] at h
    dsimp only at h
    obtain ⟨u1, u2, u3⟩ := usT_w sm e
    cases e2 : whT wl c with
    | none =>
      rw [e2] at h
      cases h
    | some q2 =>
      obtain ⟨wh, d⟩ := q2
      rw [e2] at h
      have h := Option.some.inj h
      injection h with h1 h2
      subst h1 h2
      obtain ⟨w1, w2, w3⟩ := whT_w sm u3 e2
      refine ⟨?_, on.2.2, on.2.1⟩
      have m : 602 * us.length + 602 * wh.length ≤ 602 * (d - a) := by
        rw [← Nat.mul_add]
        exact Nat.mul_le_mul_left _ (by omega)
      show (usR us).w + (whR wh).w ≤ _
      omega
theorem woT_w {wl : List Str} (sm : SmQ wl) : ∀ (k : Nat) {a b : Nat} {wo : List (List Use × List Cnd)}, a ≤ wl.length → wl.length - a < k → woT wl a = some (wo, b) → ws (wo.map woPR) ≤ 700 * (b - a) ∧ a ≤ b ∧ b ≤ wl.length
  | 0, a, _, _, _, h, _ => absurd h (by omega)
  | k + 1, a, b, wo, la, h, e => by
    rw [wo_step] at e
    split at e
    · rename_i z
      have lt := get_lt z
      cases q : wo1 wl (a + 1) with
      | none =>
        rw [q] at e
        cases e
      | some p =>
        obtain ⟨p, c⟩ := p
        rw [q] at e
        dsimp only at e
        obtain ⟨c1, c2, c3⟩ := wo1_w sm q
        cases r : woT wl c with
        | none =>
          rw [r] at e
          cases e
        | some s =>
          obtain ⟨ps, d⟩ := s
          rw [r] at e
          have e := Option.some.inj e
          injection e with e1 e2
          subst e1 e2
          obtain ⟨i1, i2, i3⟩ := woT_w sm k c3 (by omega) r
          refine ⟨?_, by omega, i3⟩
          show ((3 + (((usR p.1).w + 2) + (((whR p.2).w + 2) + 0))) + 2) + ws (ps.map woPR) ≤ 700 * (d - a)
          omega
    · have e := Option.some.inj e
      injection e with e1 e2
      subst e1 e2
      exact ⟨Nat.zero_le _, Nat.le_refl _, la⟩
theorem body_w {wl : List Str} {a b : Nat} {bd : Bd} (sm : SmQ wl) (h : bodyT wl a = some (bd, b)) : (usR bd.us).w + (whR bd.wh).w + (woR bd.wo).w ≤ 2900000 := by
  have many := sm.many
  unfold bodyT at h
  split at h
  · cases e1 : wo1 wl (a + 1) with
    | none =>
      rw [e1] at h
      cases h
    | some r =>
      obtain ⟨p, j⟩ := r
      rw [e1] at h
      dsimp only at h
      obtain ⟨j1, j2, j3⟩ := wo1_w sm e1
      cases e2 : woT wl j with
      | none =>
        rw [e2] at h
        cases h
      | some r2 =>
        obtain ⟨wo, e⟩ := r2
        rw [e2] at h
        have h := Option.some.inj h
        injection h with h _
        subst h
        obtain ⟨k1, k2, k3⟩ := woT_w sm _ j3 (Nat.lt_succ_self _) e2
        have hw : (woR wo).w = 3 + ws (wo.map woPR) := rfl
        show (usR p.1).w + (whR p.2).w + (woR wo).w ≤ _
        omega
  · cases h
theorem cs_w {wl : List Str} {a b : Nat} {ks : List Str} (sm : SmQ wl) (h : ents colT wl 1 a = some (ks, b)) : (csR ks).w ≤ 2500000 := by
  have many := sm.many
  obtain ⟨e1, e2, e3⟩ := ents_w (g := Tr.str) sm (by decide) (fun t v ok e => colT_w ok e) h
  have hw : (csR ks).w = 3 + ws (ks.map Tr.str) := rfl
  omega
theorem keep_w {wl : List Str} {a b : Nat} {ks : List Str} (sm : SmQ wl) (h : keepT wl a = some (ks, b)) : (csR ks).w ≤ 2500000 := by
  unfold keepT at h
  split at h
  · exact cs_w sm h
  · cases h
theorem sel_w {b : Bd} {k : List Str} (h : (usR b.us).w + (whR b.wh).w + (woR b.wo).w ≤ 2900000) (g : (csR k).w ≤ 2500000) : (selR b k).w ≤ 5400020 := by
  show 3 + (((usR b.us).w + 2) + (((csR k).w + 2) + (((whR b.wh).w + 2) + (((woR b.wo).w + 2) + 0)))) ≤ _
  omega
theorem by_w {wl : List Str} {a b : Nat} {ks : List Str} (sm : SmQ wl) (h : byT wl a = some (ks, b)) : (csR ks).w ≤ 2500000 := by
  unfold byT at h
  split at h
  · exact cs_w sm h
  · have h := Option.some.inj h
    injection h with h _
    subst h
    decide
theorem opt_w {wl : List Str} {w : Str} {a b : Nat} {o : Option Str} (sm : SmQ wl) (h : oneT w wl a = some (o, b)) : (optR o).w ≤ 40010 := by
  cases o with
  | none => decide
  | some x =>
    have z := sm.wd (one_mem h rfl)
    have l := wd_text z
    have m := z.len
    show (reprText x).length ≤ _
    omega
theorem hav_w {wl : List Str} {a b : Nat} {hs : List Bnd} (sm : SmQ wl) (h : havT wl a = some (hs, b)) : (hvR hs).w ≤ 2500000 := by
  have many := sm.many
  unfold havT at h
  split at h
  · obtain ⟨e1, e2, e3⟩ := ents_w (g := bndR) sm (by decide) (fun t v ok e => bnd_w ok e) h
    have hw : (hvR hs).w = 3 + ws (hs.map bndR) := rfl
    omega
  · have h := Option.some.inj h
    injection h with h _
    subst h
    decide
theorem first_w {wl : List Str} {b : Bd} {k : List Str} {c : Nat} {q : Qn} (sm : SmQ wl) (s : (selR b k).w ≤ 5400020) (h : firstT b k wl c = some q) : (qnR q).w ≤ 11000000 := by
  rw [fst_eq] at h
  have wd : ∀ x ∈ wl.drop c, WdOk x := fun x m => sm.wd (List.mem_of_mem_drop m)
  unfold fst5 at h
  split at h
  · rename_i x0 n w y t e
    rw [e] at wd
    split at h
    · rename_i z
      rw [← Option.some.inj h]
      have on := num_text (wd n (by simp)) z.2.2.1
      have oy := col_text (wd y (by simp)) z.2.2.2.2
      have f : (reprText ("first" : Str)).length ≤ 60 := by decide +kernel
      show 3 + (((reprText ("first" : Str)).length + 2) + (((3 + (((selR b k).w + 2) + (((reprText y).length + 2) + (((Tr.int (intW n)).w + 2) + ((5 + 2) + 0))))) + 2) + 0)) ≤ _
      omega
    · cases h
  · cases h
/-- the text of what a question tells is not too long -/
theorem qn_w {wl : List Str} {q : Qn} (sm : SmQ wl) (h : qnT wl = some q) : (qnR q).w ≤ 11000000 := by
  unfold qnT at h
  cases eb : bodyT wl 0 with
  | none =>
    rw [eb] at h
    cases h
  | some r =>
    obtain ⟨b, a⟩ := r
    rw [eb] at h
    dsimp only at h
    have wb := body_w sm eb
    split at h
    · cases eg : grpT wl (a + 1) with
      | none =>
        rw [eg] at h
        cases h
      | some r2 =>
        obtain ⟨⟨y, l, g, hh⟩, e⟩ := r2
        rw [eg] at h
        dsimp only at h
        split at h
        · rw [← Option.some.inj h]
          unfold grpT at eg
          cases e1 : byT wl (a + 1) with
          | none =>
            rw [e1] at eg
            cases eg
          | some r3 =>
            obtain ⟨y', b1⟩ := r3
            rw [e1] at eg
            dsimp only at eg
            cases e2 : oneT "least" wl b1 with
            | none =>
              rw [e2] at eg
              cases eg
            | some r4 =>
              obtain ⟨l', b2⟩ := r4
              rw [e2] at eg
              dsimp only at eg
              cases e3 : oneT "greatest" wl b2 with
              | none =>
                rw [e3] at eg
                cases eg
              | some r5 =>
                obtain ⟨g', b3⟩ := r5
                rw [e3] at eg
                dsimp only at eg
                cases e4 : havT wl b3 with
                | none =>
                  rw [e4] at eg
                  cases eg
                | some r6 =>
                  obtain ⟨h', b4⟩ := r6
                  rw [e4] at eg
                  have eg := Option.some.inj eg
                  injection eg with eg _
                  injection eg with g1 eg
                  injection eg with g2 eg
                  injection eg with g3 g4
                  subst g1 g2 g3 g4
                  have w1 := by_w sm e1
                  have w2 := opt_w sm e2
                  have w3 := opt_w sm e3
                  have w4 := hav_w sm e4
                  have f : (reprText ("groups" : Str)).length ≤ 70 := by decide +kernel
                  show 3 + (((reprText ("groups" : Str)).length + 2) + (((3 + (((usR b.us).w + 2) + (((csR y').w + 2) + (((whR b.wh).w + 2) + (((woR b.wo).w + 2) + (((optR l').w + 2) + (((optR g').w + 2) + (((hvR h').w + 2) + 0)))))))) + 2) + 0)) ≤ _
                  omega
        · cases h
    · cases ek : keepT wl a with
      | none =>
        rw [ek] at h
        cases h
      | some r2 =>
        obtain ⟨k, c⟩ := r2
        rw [ek] at h
        dsimp only at h
        have ws1 := sel_w wb (keep_w sm ek)
        split at h
        · unfold selT at h
          cases eb2 : bodyT wl (c + 1) with
          | none =>
            rw [eb2] at h
            cases h
          | some r3 =>
            obtain ⟨b', a'⟩ := r3
            rw [eb2] at h
            dsimp only at h
            cases ek2 : keepT wl a' with
            | none =>
              rw [ek2] at h
              cases h
            | some r4 =>
              obtain ⟨k', c'⟩ := r4
              rw [ek2] at h
              dsimp only at h
              have ws2 := sel_w (body_w sm eb2) (keep_w sm ek2)
              split at h
              · rw [← Option.some.inj h]
                have f : (reprText ("union" : Str)).length ≤ 60 := by decide +kernel
                show 3 + (((reprText ("union" : Str)).length + 2) + (((3 + (((selR b k).w + 2) + (((selR b' k').w + 2) + 0))) + 2) + 0)) ≤ _
                omega
              · cases h
        · split at h
          · exact first_w sm ws1 h
          · split at h
            · rw [← Option.some.inj h]
              have f : (reprText ("select" : Str)).length ≤ 70 := by decide +kernel
              show 3 + (((reprText ("select" : Str)).length + 2) + (((selR b k).w + 2) + 0)) ≤ _
              omega
            · cases h
theorem told_small (t : Tr) (ok : AskOk t) : (toldQ t).text.length ≤ sizeLine := by
  have big : sizeLine > 11000000 := by decide
  unfold toldQ
  cases e : qnOf t with
  | none => exact Nat.le_trans (Tr.text_le _) (by decide)
  | some q =>
    cases t with
    | str x =>
      have w := qn_w (ok x rfl).sm e
      have l := Tr.text_le (qnR q)
      show (qnR q).text.length ≤ _
      omega
    | _ => cases e
end Vm
/-! text * n, xs[::-1] of a list, text.replace(y, z, 1) -/
namespace Vm
open PySem PySem.Spec PyProof.Rows L2 TL Builtin.Str
section
variable {X : Cx}
/-- text * n -/
theorem op_mulS : OpR X (binaryOp .Mult) (fun x y H Q => ∃ (a : Str) (n : Int), x = .str a ∧ y = .int n ∧ MulOk a n ∧ Q (.str (Txt.mul a n)) H) := by
  intro pins s σ H x y v u Q I rx ry h
  obtain ⟨a, n, rfl, rfl, ok, q⟩ := h
  obtain ⟨t, rfl⟩ := rx
  obtain ⟨t', rfl⟩ := ry
  exact SB.mul ok fun t' k => ⟨.str (Txt.mul a n), H, I.tok _, ⟨_, rfl⟩, q⟩
/-- xs[::-1] -/
def tRevL (K : PySem.W.Frag) (te : TE) : TE := fun σ H Q => te σ H fun x H1 => ∃ (a : Addr) (xs : List V), x = .ref a ∧ SqL K H1 a xs ∧ ∀ p, H1 p = none → Q (.ref p) (upd H1 p (.lst xs.reverse))
theorem pe_revL {e : Expr} {te : TE} {k : Nat} {p1 p2 p3 pos : Pos} (he : PE X e te) : PE X (.Subscript e (.Slice none none (some (.UnaryOp .USub (.Constant (.int 1) k p1) p2)) p3) pos) (tRevL X.K te) := by
  constructor
  intro pins s σ H Q I want
  refine Subscript_ (thn (he.run pins s σ H _ I want) ?_)
  rintro v s1 ⟨_, H1, I1, rel, a, xs, rfl, hx, q⟩
  cases rel
  have back : PO X (some (.UnaryOp .USub (.Constant (.int 1) k p1) p2)) (tPart (tUn (rU fun i => .int (-i)) (tC (.int 1)))) := po_some (pe_un un_neg pe_int)
  refine wpAny_Slice (thn (po_none.run pins s1 σ H1 (fun o G => o = none ∧ G = H1) I1 ⟨rfl, rfl⟩) ?_)
  rintro vl s2 ⟨_, _, I2, pl, rfl, rfl⟩
  refine thn (po_none.run pins s2 σ _ (fun o G => o = none ∧ G = _) I2 ⟨rfl, rfl⟩) ?_
  rintro vu s3 ⟨_, _, I3, pu, rfl, rfl⟩
  refine thn (back.run pins s3 σ _ (fun o G => o = some (-1) ∧ G = _) I3 ⟨1, rfl, -1, rfl, rfl, rfl⟩) ?_
  rintro vs s4 ⟨_, G, I4, ps, rfl, rfl⟩
  let sob : Obj := { cls := .type "slice", data := .fields #[vl, vu, vs] }
  have I5 : Inv X pins σ G { s4 with heap := s4.heap.push sob } := I4.kept (t' := s4.toks) fun _ _ z => Heap.get?_push_of_some sob z
  obtain ⟨its, r, ht, few⟩ := I5.list hx
  show wpAny (model X.prog X.w) X.A (subscriptTail e (.Slice none none (some (.UnaryOp .USub (.Constant (.int 1) k p1) p2)) p3) (.ref a) (.ref s4.heap.objs.size)) (EP X pins σ Q) X.xe { s4 with heap := s4.heap.push sob }
  refine tail_any (ops := [.ref a, .ref s4.heap.objs.size]) ht.isList.typeIs (PySem.slot_list_getitem.lookup) ?_ (by with_unfolding_all rfl)
  refine wpAny_getItem_list_slice ht.isList (Heap.IsSliceOf.new _ vl vu vs) pl pu ps (by decide) ?_ (vals_few r few)
  rw [PySem.W.krv_pick]
  refine ⟨.ref _, _, I5.laid (t' := s4.toks) (o := .lst xs.reverse) (fun b ob q => Heap.get?_push_of_some _ q) (Nat.le_refl _) ?_, rfl, q _ (I5.hok.fresh (Nat.le_refl _))⟩
  exact ⟨by rw [List.length_reverse]; exact few, _, 0, r.reverse, Heap.get?_push_size _ rfl⟩
end
/-! text.replace(y, z, 1) of written texts -/
def rep1 (x y z : Str) : Str := if ((occurrences x y 0 x.length 1).isEmpty || (y.length == 0 && z.length == 0)) = true then x else glued z (partsBetween x (occurrences x y 0 x.length 1) y.length)
theorem gives_replace1 (x y z : Str) (t u v r : Tok)
    (hf : ((occurrences x y 0 x.length 1).isEmpty || (y.length == 0 && z.length == 0)) = false → (u == 0 || v == 0) = false ∧ (u == v) = false ∧ (y == z) = false ∧ tooLong (x.length + (occurrences x y 0 x.length 1).length * z.length) = false) :
    Gives (Builtin.«str.replace» ⟨[.str x t, .str y u, .str z v, .int 1 r], []⟩) (if ((occurrences x y 0 x.length 1).isEmpty || (y.length == 0 && z.length == 0)) = true then .val (.str x t) else .str (glued z (partsBetween x (occurrences x y 0 x.length 1) y.length))) := by
  have e : Builtin.«str.replace» ⟨[.str x t, .str y u, .str z v, .int 1 r], []⟩ = (if ((occurrences x y 0 x.length 1).isEmpty || (y.length == 0 && z.length == 0)) = true then (do rule "str.replace.nothing"; ret (.str x t)) else
          (do let same ← isSame (.str y u) (.str z v)
              if same = true then (do rule "str.replace.old-is-new"; ret (.str x t)) else
              if tooLong (x.length + (occurrences x y 0 x.length 1).length * z.length) = true then unsupported "str.replace:memory" else
              retStr (glued z (partsBetween x (occurrences x y 0 x.length 1) y.length)))) := by
    show (do let limit ← countLimit "str.replace" (some (.int 1 r)) (x.length + 1); _) = _
    rw [countLimit_int "str.replace" 1 r (x.length + 1) (by decide)]
    rfl
  rw [e]
  cases hc : ((occurrences x y 0 x.length 1).isEmpty || (y.length == 0 && z.length == 0))
  · obtain ⟨h0, huv, hyz, hl⟩ := hf hc
    rw [isSame_str_other y z u v h0 huv hyz, hl]
    exact .of_eq rfl
  · exact .rule (.of_eq rfl)
end Vm
/-! the law's texts: an entry -/
namespace Vm
open PySem PySem.Spec PyProof.Rows L2 TL
abbrev sEntry : Stmt := top 49
def entWs : List Str := ["from", "as", "where", "without", "keep", "or", "first", "by", "group", "least", "having", "a", "b", "u"]
def entIs : List Int := [0, 1, -1, 42, 10 ^ 11]
theorem entWs_ok : ∀ x ∈ entWs, TxC 7 0 0 0 x := by
  have h : entWs.all (txB 7 0 0 0) = true := by decide +kernel
  exact fun x m => txB_ok (List.all_eq_true.mp h x m)
theorem entIs_ok : ∀ i ∈ entIs, i.natAbs.log2 < 1920 ∧ TxC 12 12 0 0 (toString i : Str) := by
  have h : entIs.all (fun i => decide (i.natAbs.log2 < 1920) && txB 12 12 0 0 (toString i : Str)) = true := by decide +kernel
  intro i m
  have := List.all_eq_true.mp h i m
  rw [Bool.and_eq_true, decide_eq_true_iff] at this
  exact ⟨this.1, txB_ok this.2⟩
theorem txs_ok {L : Nat} {xs : List Str} (h : xs.all (txB L 0 0 0) = true) : ∀ x ∈ xs, TxC L 0 0 0 x := fun x m => txB_ok (List.all_eq_true.mp h x m)
theorem str_mem {x : V} {xs : List Str} (h : x ∈ xs.map V.str) : ∃ y ∈ xs, x = .str y := by
  obtain ⟨y, m, e⟩ := List.mem_map.mp h
  exact ⟨y, m, e.symm⟩
/-- one of a written list, by a draw -/
theorem pick_of {K : PySem.W.Frag} {s l c : Addr} {xs : List V} {ms : List Int} {z b : Int} {H : Hp} {Q : VK} {E : XK} (hs : Src H s l ms z b) (b0 : 0 ≤ b) (b1 : b < 1000000) (hc : H c = none) (h0 : 0 < xs.length) (h1 : xs.length ≤ 1000)
    (k : ∀ (H' : Hp) (ms' : List Int) (v : V), But s l H H' → Src H' s l ms' z (b + 1) → v ∈ xs → Q v H') : spPick K [.ref s, .ref c] (upd H c (.lst xs)) Q E := by
  have fc := hs.free hc
  refine ⟨s, l, .ref c, ms, z, b, rfl, hs.put fc, b0, b1, .inl ⟨c, xs, rfl, fun H' kk => SqL.of (kk _ _ fc.1 fc.2 upd_same), h0, h1, fun H' ms' v k' hs' m => k H' ms' v (fun b o n1 n2 e => k' b o n1 n2 (by rw [upd_ne (ne_of_none e hc)]; exact e)) hs' m⟩⟩
def spEntry (K : PySem.W.Frag) : Sp := fun vs H Q _ => ∃ (s l : Addr) (kd : Str) (ms : List Int) (z b : Int), vs = [.ref s, .str kd] ∧ Src H s l ms z b ∧ 0 ≤ b ∧ b < 900000 ∧
  ∀ (H' : Hp) (ms' : List Int) (b' : Int) (x : Str), But s l H H' → Src H' s l ms' z b' → b ≤ b' → b' ≤ b + 10 → TxC 26 12 0 0 x → Q (.str x) H'
section
variable {P : Program} {w : World} {K : PySem.W.Frag} {mg : Str → Option Value} {base : Heap} {fD fP : Addr}
abbrev nmEntry : List Str := ["_law_source_here", "_law_kind", "_law_words", "_law_one", "_law_two", "_law_column", "_law_far"]
theorem scEntry : FnScope nmEntry ["_law_source_here", "_law_kind"] (defScope sEntry) := ⟨rfl, rfl, rfl, by decide +kernel, rfl, by decide +kernel, by decide +kernel⟩
theorem ok_entry {f : Addr} {fd fdP : FuncData} (F : Fun K "_law_entry" "_law_entry" sEntry f fd) (T : TxtL K mg fD fP) (str : mg "str" = none) (GP : FnOk P w K mg base CX0 2 fP fdP ["_law_source_here", "_law_items"] (spPick K)) (bP : Binds K fdP ["_law_source_here", "_law_items"] []) :
    FnOk P w K mg base CX0 3 f fd ["_law_source_here", "_law_kind"] (spEntry K) := by
  refine F.ok scEntry (fun vs H Q E h => ?_) (fun cdv A outer s H vs Q E hr h => ?_)
  · obtain ⟨s, l, kd, ms, z, b, rfl, _⟩ := h
    rfl
  · obtain ⟨a, l, kd, ms, z, b, rfl, hs, b0, b1, k⟩ := h
    have big : sizeLine > 1000 := by decide
    refine ⟨_, pss_cons (ps_set (i := 2) scEntry.nd rfl (Or.inl rfl) (pe_lst (pa_cons pe_str (pa_cons pe_str (pa_cons pe_str (pa_cons pe_str (pa_cons pe_str (pa_cons pe_str (pa_cons pe_str (pa_cons pe_str (pa_cons pe_str (pa_cons pe_str (pa_cons pe_str (pa_cons pe_str (pa_cons pe_str (pa_cons pe_str pa_nil))))))))))))))))
      (pss_cons (ps_par (i := 3) (j := 4) rfl scEntry.nd rfl rfl (by decide) rfl rfl (pa_cons (pe_call GP hr rfl T.gP T.kP bP .nil pass0 (pa_cons (pv 0) (pa_cons (pv 2) pa_nil))) (pa_cons (pe_call GP hr rfl T.gP T.kP bP .nil pass0 (pa_cons (pv 0) (pa_cons (pv 2) pa_nil))) pa_nil)) rfl)
      (pss_cons (ps_set (i := 5) scEntry.nd rfl (Or.inl rfl) (pe_op op_add_str (pe_op op_add_str (pe_call GP hr rfl T.gP T.kP bP .nil pass0 (pa_cons (pv 0) (pa_cons (pe_lst (pa_cons pe_str (pa_cons pe_str (pa_cons pe_str pa_nil)))) pa_nil))) pe_str) (pe_call GP hr rfl T.gP T.kP bP .nil pass0 (pa_cons (pv 0) (pa_cons (pe_lst (pa_cons pe_str (pa_cons pe_str (pa_cons pe_str pa_nil)))) pa_nil)))))
      (pss_cons (ps_set (i := 6) scEntry.nd rfl (Or.inl rfl) (pe_callTy call_str_int (by rfl) str (by decide +kernel) (pa_cons (pe_call GP hr rfl T.gP T.kP bP .nil pass0 (pa_cons (pv 0) (pa_cons (pe_lst (pa_cons pe_int (pa_cons pe_int (pa_cons (pe_un un_neg pe_int) (pa_cons pe_int (pa_cons (pe_op op_pow pe_int pe_int) pa_nil)))))) pa_nil))) pa_nil)))
      (pss_cons (ps_if (pt_cmpR op_eq (pv 1) pe_str (nomark _)) (pss_one (ps_ret (pe_op op_add_str (pe_op op_add_str (pv 3) pe_str) (pv 4)))) pss_nil)
      (pss_cons (ps_if (pt_cmpR op_eq (pv 1) pe_str (nomark _)) (pss_one (ps_ret (pv 5))) pss_nil)
      (pss_cons (ps_if (pt_cmpR op_eq (pv 1) pe_str (nomark _)) (pss_one (ps_ret (pe_op op_add_str (pe_op op_add_str (pe_call GP hr rfl T.gP T.kP bP .nil pass0 (pa_cons (pv 0) (pa_cons (pe_lst (pa_cons pe_str (pa_cons pe_str (pa_cons pe_str pa_nil)))) pa_nil))) (pe_call GP hr rfl T.gP T.kP bP .nil pass0 (pa_cons (pv 0) (pa_cons (pe_lst (pa_cons pe_str (pa_cons pe_str pa_nil))) pa_nil)))) (pv 6)))) pss_nil)
      (pss_one (ps_ret (pe_op op_add_str (pe_op op_add_str (pv 5) (pe_call GP hr rfl T.gP T.kP bP .nil pass0 (pa_cons (pv 0) (pa_cons (pe_lst (pa_cons pe_str (pa_cons pe_str (pa_cons pe_str (pa_cons pe_str pa_nil))))) pa_nil)))) (pe_call GP hr rfl T.gP T.kP bP .nil pass0 (pa_cons (pv 0) (pa_cons (pe_lst (pa_cons (pv 4) (pa_cons (pv 5) (pa_cons (pv 6) (pa_cons pe_str pa_nil))))) pa_nil)))))))))))), ?_⟩
    have fits : ∀ {x y : Str} {L R C M l r c m : Nat}, TxC L R C M x → TxC l r c m y → L + l ≤ 1000 → x.length + y.length ≤ sizeLine := fun hx hy le => by
      have a := hx.len
      have b := hy.len
      omega
    have back : ∀ {H'}, But a l H H' → But a l H H' := fun h => h
    refine ⟨by show 14 ≤ sizeLine; omega, fun W hW => ?_⟩
    have fW := hs.free hW
    have k1 : But a l H (upd H W (.lst (entWs.map V.str))) := (show But a l H H from fun _ _ _ _ e => e).put hW
    have hs1 := hs.put (u := .lst (entWs.map V.str)) fW
    have eW : upd H W (.lst (entWs.map V.str)) W = some (.lst (entWs.map V.str)) := upd_same
    show tSeq _ _ _ _ (upd H W (.lst (entWs.map V.str)))
    generalize upd H W (.lst (entWs.map V.str)) = H1 at k1 hs1 eW ⊢
    refine ⟨_, rfl, _, rfl, a, l, .ref W, ms, z, b, rfl, hs1, b0, by omega, .inl ⟨W, entWs.map V.str, rfl, fun H' kk => SqL.of (kk _ _ fW.1 fW.2 eW), by decide, by decide, fun H2 ms2 v k2 hs2 m => ?_⟩⟩
    obtain ⟨one, m1, rfl⟩ := str_mem m
    have eW2 := k2 _ _ fW.1 fW.2 eW
    refine ⟨_, rfl, _, rfl, a, l, .ref W, ms2, z, b + 1, rfl, hs2, by omega, by omega, .inl ⟨W, entWs.map V.str, rfl, fun H' kk => SqL.of (kk _ _ fW.1 fW.2 eW2), by decide, by decide, fun H3 ms3 v k3 hs3 m => ?_⟩⟩
    obtain ⟨two, m2, rfl⟩ := str_mem m
    have k13 := (k1.trans k2).trans k3
    refine ⟨_, _, rfl, ?_⟩
    refine ⟨_, rfl, by show 3 ≤ sizeLine; omega, fun c1 hc1 => pick_of (E := E0) hs3 (by omega) (by omega) hc1 (by show 0 < 3; decide) (by show 3 ≤ 1000; decide) fun H4 ms4 v k4 hs4 m => ?_⟩
    obtain ⟨ca, m3, rfl⟩ := str_mem (xs := ["a", "u", "keep"]) m
    have tca := txs_ok (L := 4) (xs := ["a", "u", "keep"]) (by decide +kernel) ca m3
    have tdot : TxC 1 0 0 0 "." := txB_ok (by decide +kernel)
    refine ⟨_, _, rfl, rfl, fits tca tdot (by decide), ?_⟩
    refine ⟨_, rfl, by show 3 ≤ sizeLine; omega, fun c2 hc2 => pick_of (E := E0) hs4 (by omega) (by omega) hc2 (by show 0 < 3; decide) (by show 3 ≤ 1000; decide) fun H5 ms5 v k5 hs5 m => ?_⟩
    obtain ⟨cb, m4, rfl⟩ := str_mem (xs := ["p", "by", "a"]) m
    have tcb := txs_ok (L := 2) (xs := ["p", "by", "a"]) (by decide +kernel) cb m4
    have tcol : TxC 7 0 0 0 (ca ++ "." ++ cb) := (tca.app tdot).app tcb
    refine ⟨_, _, rfl, rfl, fits (tca.app tdot) tcb (by decide), ?_⟩
    generalize ca ++ "." ++ cb = col at tcol ⊢
    have k15 := (k13.trans k4).trans k5
    refine ⟨_, rfl, _, rfl, _, _, rfl, rfl, ⟨by decide, by decide, by decide⟩, by show 5 ≤ sizeLine; omega, fun c3 hc3 => pick_of (E := E0) hs5 (by omega) (by omega) hc3 (by show 0 < 5; decide) (by show 5 ≤ 1000; decide) fun H6 ms6 v k6 hs6 m => ?_⟩
    obtain ⟨far, m5, ef⟩ := List.mem_map.mp (show v ∈ entIs.map V.int from m)
    subst ef
    obtain ⟨fl, tfar⟩ := entIs_ok far m5
    refine ⟨far, rfl, fl, ?_⟩
    generalize (toString far : Str) = fr at tfar ⊢
    have k16 := k15.trans k6
    have t1 := entWs_ok one m1
    have t2 := entWs_ok two m2
    have tas : TxC 4 0 0 0 " as " := txB_ok (by decide +kernel)
    refine ⟨_, rfl, rfl, _, rfl, ?_⟩
    refine ite_ (fun _ => ?_) (fun _ => ?_)
    · refine ⟨_, rfl, _, _, rfl, rfl, fits t1 tas (by decide), _, rfl, _, _, rfl, rfl, fits (t1.app tas) t2 (by decide), ?_⟩
      exact k _ _ _ _ k16 hs6 (by omega) (by omega) (((t1.app tas).app t2).mono (by decide) (by decide) (by decide) (by decide))
    refine ⟨_, rfl, rfl, _, rfl, ?_⟩
    refine ite_ (fun _ => ?_) (fun _ => ?_)
    · exact ⟨_, rfl, k _ _ _ _ k16 hs6 (by omega) (by omega) (tcol.mono (by decide) (by decide) (by decide) (by decide))⟩
    refine ⟨_, rfl, rfl, _, rfl, ?_⟩
    refine ite_ (fun _ => ?_) (fun _ => ?_)
    · refine ⟨_, rfl, by show 3 ≤ sizeLine; omega, fun c4 hc4 => pick_of (E := E0) hs6 (by omega) (by omega) hc4 (by show 0 < 3; decide) (by show 3 ≤ 1000; decide) fun H7 ms7 v k7 hs7 m => ?_⟩
      obtain ⟨x, mx, rfl⟩ := str_mem (xs := ["count", "least", "greatest"]) m
      have tx := txs_ok (L := 8) (xs := ["count", "least", "greatest"]) (by decide +kernel) x mx
      refine ⟨_, rfl, by show 2 ≤ sizeLine; omega, fun c5 hc5 => pick_of (E := E0) hs7 (by omega) (by omega) hc5 (by show 0 < 2; decide) (by show 2 ≤ 1000; decide) fun H8 ms8 v k8 hs8 m => ?_⟩
      obtain ⟨y, my, rfl⟩ := str_mem (xs := [" <= ", " >= "]) m
      have ty := txs_ok (L := 4) (xs := [" <= ", " >= "]) (by decide +kernel) y my
      refine ⟨_, _, rfl, rfl, fits tx ty (by decide), _, rfl, _, _, rfl, rfl, fits (tx.app ty) tfar (by decide), ?_⟩
      exact k _ _ _ _ ((k16.trans k7).trans k8) hs8 (by omega) (by omega) (((tx.app ty).app tfar).mono (by decide) (by decide) (by decide) (by decide))
    · refine ⟨_, rfl, _, rfl, by show 4 ≤ sizeLine; omega, fun c4 hc4 => pick_of (E := E0) hs6 (by omega) (by omega) hc4 (by show 0 < 4; decide) (by show 4 ≤ 1000; decide) fun H7 ms7 v k7 hs7 m => ?_⟩
      obtain ⟨x, mx, rfl⟩ := str_mem (xs := [" = ", " != ", " <= ", " >= "]) m
      have tx := txs_ok (L := 4) (xs := [" = ", " != ", " <= ", " >= "]) (by decide +kernel) x mx
      refine ⟨_, _, rfl, rfl, fits tcol tx (by decide), ?_⟩
      refine ⟨_, rfl, _, rfl, _, rfl, _, rfl, by show 4 ≤ sizeLine; omega, fun c5 hc5 => pick_of (E := E0) hs7 (by omega) (by omega) hc5 (by show 0 < 4; decide) (by show 4 ≤ 1000; decide) fun H8 ms8 v k8 hs8 m => ?_⟩
      obtain ⟨y, my, rfl⟩ := str_mem (xs := [two, col, fr, "u.p"]) m
      have ty : TxC 12 12 0 0 y := by
        simp only [List.mem_cons, List.not_mem_nil, or_false] at my
        rcases my with e | e | e | e <;> subst e
        · exact t2.mono (by decide) (by decide) (by decide) (by decide)
        · exact tcol.mono (by decide) (by decide) (by decide) (by decide)
        · exact tfar
        · exact txB_ok (by decide +kernel)
      refine ⟨_, _, rfl, rfl, fits (tcol.app tx) ty (by decide), ?_⟩
      exact k _ _ _ _ ((k16.trans k7).trans k8) hs8 (by omega) (by omega) (((tcol.app tx).app ty).mono (by decide) (by decide) (by decide) (by decide))
end
end Vm
/-! the law's texts: lists of entries -/
namespace Vm
open PySem PySem.Spec PyProof.Rows L2 TL
abbrev sListed : Stmt := top 50
theorem cs_tl : tl (", " : Str) = [44, 32] := by decide +kernel
/-- texts put together with a comma and a blank -/
theorem joinL2 {L R C M : Nat} : ∀ {ps : List (List Nat)}, ps ≠ [] → (∀ p ∈ ps, p.length ≤ L ∧ (∀ c ∈ p, c < 128) ∧ NumRun R p ∧ p.count 44 ≤ C ∧ p.count 10 ≤ M) →
    (joinL [44, 32] ps).length ≤ (L + 2) * ps.length ∧ (∀ c ∈ joinL [44, 32] ps, c < 128) ∧ NumRun R (joinL [44, 32] ps) ∧ (joinL [44, 32] ps).count 44 ≤ (C + 1) * ps.length ∧ (joinL [44, 32] ps).count 10 ≤ M * ps.length
  | [], h, _ => absurd rfl h
  | [p], _, h => by
    obtain ⟨a, b, c, d, e⟩ := h p List.mem_cons_self
    show p.length ≤ (L + 2) * 1 ∧ (∀ c ∈ p, c < 128) ∧ NumRun R p ∧ p.count 44 ≤ (C + 1) * 1 ∧ p.count 10 ≤ M * 1
    exact ⟨by omega, b, c, by omega, by omega⟩
  | p :: q :: r, _, h => by
    obtain ⟨a, b, c, d, e⟩ := h p List.mem_cons_self
    obtain ⟨a2, b2, c2, d2, e2⟩ := joinL2 (ps := q :: r) (by simp) fun x m => h x (List.mem_cons_of_mem _ m)
    show (p ++ ([44, 32] ++ joinL [44, 32] (q :: r))).length ≤ (L + 2) * ((q :: r).length + 1) ∧ (∀ c ∈ p ++ ([44, 32] ++ joinL [44, 32] (q :: r)), c < 128) ∧ NumRun R (p ++ ([44, 32] ++ joinL [44, 32] (q :: r))) ∧ (p ++ ([44, 32] ++ joinL [44, 32] (q :: r))).count 44 ≤ (C + 1) * ((q :: r).length + 1) ∧ (p ++ ([44, 32] ++ joinL [44, 32] (q :: r))).count 10 ≤ M * ((q :: r).length + 1)
    generalize joinL [44, 32] (q :: r) = j at a2 b2 c2 d2 e2 ⊢
    rw [Nat.mul_succ, Nat.mul_succ, Nat.mul_succ]
    refine ⟨?_, fun x m => ?_, ?_, ?_, ?_⟩
    · rw [List.length_append, List.length_append]
      show p.length + (2 + j.length) ≤ _
      omega
    · rcases List.mem_append.mp m with m | m
      · exact b x m
      · rcases List.mem_append.mp m with m | m
        · have z : ∀ x ∈ ([44, 32] : List Nat), x < 128 := by decide
          exact z x m
        · exact b2 x m
    · have z : NumRun R ([] ++ 32 :: j) := NumRun.cut (by intro q s _; rw [List.infix_nil.mp s]; exact Nat.zero_le _) c2 (by unfold dm; omega)
      exact NumRun.cut c z (by unfold dm; omega)
    · rw [List.count_append, List.count_append]
      have z : ([44, 32] : List Nat).count 44 = 1 := by decide
      rw [z]
      omega
    · rw [List.count_append, List.count_append]
      have z : ([44, 32] : List Nat).count 10 = 0 := by decide
      rw [z]
      omega
theorem joinC {L R C M n : Nat} {xs : List Str} (ne : xs ≠ []) (h : ∀ x ∈ xs, TxC L R C M x) (l : xs.length ≤ n) : TxC ((L + 2) * n) R ((C + 1) * n) (M * n) (Txt.join ", " xs) := by
  have e : tl (Txt.join ", " xs) = joinL [44, 32] (xs.map tl) := by rw [join_eq, tl_join, cs_tl]
  obtain ⟨a, b, c, d, f⟩ := joinL2 (L := L) (R := R) (C := C) (M := M) (ps := xs.map tl) (by simpa using ne) fun p m => by
    obtain ⟨x, mx, rfl⟩ := List.mem_map.mp m
    have t := h x mx
    exact ⟨by rw [← len_tl]; exact t.len, t.asc, t.run, t.cms, t.nls⟩
  rw [List.length_map] at a d f
  refine ⟨?_, ?_, ?_, ?_, ?_⟩
  · rw [len_tl, e]
    exact Nat.le_trans a (Nat.mul_le_mul_left _ l)
  · rw [e]
    exact b
  · rw [e]
    exact c
  · rw [e]
    exact Nat.le_trans d (Nat.mul_le_mul_left _ l)
  · rw [e]
    exact Nat.le_trans f (Nat.mul_le_mul_left _ l)
def spListed (K : PySem.W.Frag) : Sp := fun vs H Q _ => ∃ (s l : Addr) (kd : Str) (ms : List Int) (z b : Int) (n : Nat), vs = [.ref s, .str kd, .int (n : Int)] ∧ Src H s l ms z b ∧ 0 ≤ b ∧ b < 890000 ∧ 1 ≤ n ∧ n ≤ 5 ∧
  ∀ (H' : Hp) (ms' : List Int) (b' : Int) (x : Str), But s l H H' → Src H' s l ms' z b' → b ≤ b' → b' ≤ b + 60 → TxC (28 * n) 12 n 0 x → Q (.str x) H'
section
variable {P : Program} {w : World} {K : PySem.W.Frag} {mg : Str → Option Value} {base : Heap} {fD fP fE : Addr}
theorem scListed : FnScope ["_law_source_here", "_law_kind", "_law_most", "_law_k"] ["_law_source_here", "_law_kind", "_law_most"] (defScope sListed) := ⟨rfl, rfl, rfl, by decide +kernel, rfl, by decide +kernel, by decide +kernel⟩
theorem ok_listed {f : Addr} {fd fdD fdE : FuncData} (F : Fun K "_law_listed" "_law_listed" sListed f fd) (T : TxtL K mg fD fP)
    (GD : FnOk P w K mg base CX0 1 fD fdD ["_law_source_here", "_law_many"] spDraw) (bD : Binds K fdD ["_law_source_here", "_law_many"] [])
    (cE : Calls K mg "_law_entry" fE) (GE : FnOk P w K mg base CX0 3 fE fdE ["_law_source_here", "_law_kind"] (spEntry K)) (bE : Binds K fdE ["_law_source_here", "_law_kind"] []) :
    FnOk P w K mg base CX0 4 f fd ["_law_source_here", "_law_kind", "_law_most"] (spListed K) := by
  refine F.ok scListed (fun vs H Q E h => ?_) (fun cdv A outer s H vs Q E hr h => ?_)
  · obtain ⟨s, l, kd, ms, z, b, n, rfl, _⟩ := h
    rfl
  · obtain ⟨a, l, kd, ms, z, b, n, rfl, hs, b0, b1, n1, n5, k⟩ := h
    have hr1 : Room 1 _ := hr.mono (by decide)
    have big : sizeLine > 1000 := by decide
    refine ⟨_, pss_one (ps_ret (pe_join pe_str (pe_lc (own := [("_law_k", 3)]) (g := gName 3) (tt := tYes) (te := tCall (spEntry K) [] E0 (tCons (tVar 0) (tCons (tVar 1) tNil))) rfl scListed.nd (pi_range1 rfl T.range (pa_cons (pe_op op_add pe_int (pe_call GD hr1 rfl T.gD T.kD bD .nil pass0 (pa_cons (pv 0) (pa_cons (pv 2) pa_nil)))) pa_nil))
          (blkOk_by (N := ["_law_source_here", "_law_kind", "_law_most", "_law_k"]) (sc := defScope sListed) (by decide +kernel)) (fun _ _ _ _ _ => pg_name (i := 3) scListed.nd rfl (Or.inl rfl)) (fun _ _ _ _ _ => pts_nil)
          (fun _ _ _ _ _ => by exact (pe_call GE hr rfl cE.g cE.k bE .nil pass0 (pa_cons (pv 0) (pa_cons (pv 1) pa_nil))))))), ?_⟩
    refine ⟨⟨_, rfl⟩, ?_⟩
    refine ⟨_, rfl, _, rfl, a, l, ms, z, b, (n : Int), rfl, hs, by omega, by omega, b0, by omega, fun H1 ms1 r k1 hs1 r0 rn => ?_⟩
    obtain ⟨m, rfl⟩ : ∃ m : Nat, r = (m : Int) := ⟨r.toNat, by omega⟩
    have e1 : (1 : Int) + (m : Int) = ((1 + m : Nat) : Int) := by omega
    refine ⟨_, _, rfl, rfl, ((1 + m : Nat) : Int), congrArg (fun z => [V.int z]) e1, by omega, by omega, fun D hD => ?_⟩
    have fD := hs1.free hD
    have hDH := k1.back hs1 hD
    refine lc_range (lo := 0) (n := 1 + m) (fun i H' => ∃ (ms' : List Int) (b' : Int) (xs : List Str), But a l H H' ∧ Src H' a l ms' z b' ∧ b ≤ b' ∧ b' ≤ b + 1 + 10 * (i : Int) ∧ H' D = some (.lst (xs.map V.str)) ∧ xs.length = i ∧ ∀ x ∈ xs, TxC 26 12 0 0 x)
      ⟨ms1, b + 1, [], k1.put hDH, hs1.put fD, by omega, by omega, upd_same, rfl, (fun _ m => nomatch m)⟩ ?_ ?_
    · rintro i H2 hi ⟨ms2, b2, xs, k2, hs2, c1, c2, e2, lx, ok⟩
      refine ⟨rfl, ?_⟩
      dsimp only [tYes]
      rw [if_pos rfl]
      refine ⟨_, rfl, _, rfl, a, l, kd, ms2, z, b2, rfl, hs2, by omega, by omega, fun H3 ms3 b3 x k3 hs3 c3 c4 tx => ?_⟩
      have e3 := k3 _ _ fD.1 fD.2 e2
      refine ⟨_, e3, by rw [List.length_map]; omega, ms3, b3, xs ++ [x], (k2.trans k3).put hDH, hs3.put fD, by omega, by omega, by rw [upd_same, List.map_append]; rfl, by rw [List.length_append, lx]; rfl, fun y my => ?_⟩
      rcases List.mem_append.mp my with my | my
      · exact ok y my
      · rw [List.mem_singleton.mp my]
        exact tx
    · rintro H2 ⟨ms2, b2, xs, k2, hs2, c1, c2, e2, lx, ok⟩
      have ne : xs ≠ [] := fun z => by
        rw [z] at lx
        have : 0 = 1 + m := lx
        omega
      have tj := joinC (n := n) ne ok (by omega)
      refine ⟨_, D, xs, rfl, rfl, .inl (SqL.of e2), ?_, k _ _ _ _ k2 hs2 (by omega) (by omega) (tj.mono (by omega) (Nat.le_refl _) (by omega) (by omega))⟩
      have l2 : (", " : Str).length = 2 := by decide
      have sum : ∀ ys : List Str, (∀ y ∈ ys, TxC 26 12 0 0 y) → (ys.map (·.length)).sum ≤ 26 * ys.length := by
        intro ys
        induction ys with
        | nil => intro _; exact Nat.zero_le _
        | cons y r ih =>
          intro h
          have a := (h y List.mem_cons_self).len
          have b := ih fun x m => h x (List.mem_cons_of_mem _ m)
          show y.length + (r.map (·.length)).sum ≤ 26 * (r.length + 1)
          omega
      have s := sum xs ok
      rw [l2]
      omega
end
end Vm
/-! the law's texts: conditions -/
namespace Vm
open PySem PySem.Spec PyProof.Rows L2 TL
abbrev sLWhere : Stmt := top 51
/-- empty, or begins with a blank -/
def hdS (x : Str) : Prop := tl x = [] ∨ ∃ r, tl x = 32 :: r
theorem hdS.app {x y : Str} (h : ∃ r, tl x = 32 :: r) : ∃ r, tl (x ++ y) = 32 :: r := by
  obtain ⟨r, e⟩ := h
  exact ⟨r ++ tl y, by rw [tl_append, e]; rfl⟩
theorem TxC.appS {L R C M l c m : Nat} {x y : Str} (h : TxC L R C M x) (g : TxC l R c m y) (b : hdS y) : TxC (L + l) R (C + c) (M + m) (x ++ y) := by
  have z := h.app g
  refine ⟨z.len, z.asc, ?_, z.cms, z.nls⟩
  rw [tl_append]
  rcases b with e | ⟨r, e⟩
  · rw [e, List.append_nil]
    exact h.run
  · rw [e]
    refine NumRun.cut h.run ?_ (by unfold dm; omega)
    have := g.run
    rw [e] at this
    exact this.sub ⟨[32], [], by simp⟩
theorem assocS (x y z : Str) : x ++ y ++ z = x ++ (y ++ z) := ext_tl (by rw [tl_append, tl_append, tl_append, tl_append, List.append_assoc])
def spLWhere (K : PySem.W.Frag) : Sp := fun vs H Q _ => ∃ (s l : Addr) (ms : List Int) (z b : Int), vs = [.ref s] ∧ Src H s l ms z b ∧ 0 ≤ b ∧ b < 880000 ∧
  ∀ (H' : Hp) (ms' : List Int) (b' : Int) (x : Str), But s l H H' → Src H' s l ms' z b' → b ≤ b' → b' ≤ b + 70 → TxC 91 12 3 0 x → hdS x → Q (.str x) H'
section
variable {P : Program} {w : World} {K : PySem.W.Frag} {mg : Str → Option Value} {base : Heap} {fD fP fL : Addr}
theorem scLWhere : FnScope ["_law_source_here"] ["_law_source_here"] (defScope sLWhere) := ⟨rfl, rfl, rfl, by decide +kernel, rfl, by decide +kernel, by decide +kernel⟩
theorem ok_lwhere {f : Addr} {fd fdD fdL : FuncData} (F : Fun K "_law_where" "_law_where" sLWhere f fd) (T : TxtL K mg fD fP)
    (GD : FnOk P w K mg base CX0 1 fD fdD ["_law_source_here", "_law_many"] spDraw) (bD : Binds K fdD ["_law_source_here", "_law_many"] [])
    (cL : Calls K mg "_law_listed" fL) (GL : FnOk P w K mg base CX0 4 fL fdL ["_law_source_here", "_law_kind", "_law_most"] (spListed K)) (bL : Binds K fdL ["_law_source_here", "_law_kind", "_law_most"] []) :
    FnOk P w K mg base CX0 5 f fd ["_law_source_here"] (spLWhere K) := by
  refine F.ok scLWhere (fun vs H Q E h => ?_) (fun cdv A outer s H vs Q E hr h => ?_)
  · obtain ⟨s, l, ms, z, b, rfl, _⟩ := h
    rfl
  · obtain ⟨a, l, ms, z, b, rfl, hs, b0, b1, k⟩ := h
    have hr1 : Room 1 _ := hr.mono (by decide)
    have big : sizeLine > 1000 := by decide
    refine ⟨_, pss_one (ps_ret (pe_ifExp (pt_cmpR op_eq (pe_call GD hr1 rfl T.gD T.kD bD .nil pass0 (pa_cons (pv 0) (pa_cons pe_int pa_nil))) pe_int (nomark _))
      (pe_op op_add_str pe_str (pe_call GL hr rfl cL.g cL.k bL .nil pass0 (pa_cons (pv 0) (pa_cons pe_str (pa_cons pe_int pa_nil))))) pe_str)), ?_⟩
    refine ⟨_, rfl, a, l, ms, z, b, 2, rfl, hs, by decide, by decide, b0, by omega, fun H1 ms1 r k1 hs1 r0 rn => ⟨rfl, _, rfl, ?_⟩⟩
    refine ite_ (fun _ => ?_) (fun _ => ?_)
    · refine ⟨_, rfl, a, l, _, ms1, z, b + 1, 3, rfl, hs1, by omega, by omega, by decide, by decide, fun H2 ms2 b2 x k2 hs2 c1 c2 tx => ?_⟩
      have tw : TxC 7 0 0 0 " where " := txB_ok (by decide +kernel)
      have ew : tl (" where " : Str) = 32 :: [119, 104, 101, 114, 101, 32] := by decide +kernel
      have l1 := tw.len
      have l2 := tx.len
      refine ⟨_, _, rfl, rfl, by omega, ?_⟩
      exact k _ _ _ _ (k1.trans k2) hs2 (by omega) (by omega) ((tw.app tx).mono (by decide) (by decide) (by decide) (by decide)) (.inr (hdS.app ⟨_, ew⟩))
    · exact k _ _ _ _ k1 hs1 (by omega) (by omega) (txB_ok (by decide +kernel)) (.inl (by decide +kernel))
end
end Vm
/-! the law's texts: selects -/
namespace Vm
open PySem PySem.Spec PyProof.Rows L2 TL
abbrev sSelW : Stmt := top 52
def spSelW (K : PySem.W.Frag) : Sp := fun vs H Q _ => ∃ (s l : Addr) (ms : List Int) (z b : Int), vs = [.ref s] ∧ Src H s l ms z b ∧ 0 ≤ b ∧ b < 870000 ∧
  ∀ (H' : Hp) (ms' : List Int) (b' : Int) (p : Addr) (x y : Str), But s l H H' → Src H' s l ms' z b' → b ≤ b' → b' ≤ b + 700 → H p = none → H' p = some (.lst [.str x, .str y]) → TxC 680 12 22 0 x → TxC 146 12 5 0 y → hdS y → Q (.ref p) H'
section
variable {P : Program} {w : World} {K : PySem.W.Frag} {mg : Str → Option Value} {base : Heap} {fD fP fL fW : Addr}
theorem scSelW : FnScope ["_law_source_here", "_law_written_here", "_law_k"] ["_law_source_here"] (defScope sSelW) := ⟨rfl, rfl, rfl, by decide +kernel, rfl, by decide +kernel, by decide +kernel⟩
theorem ok_selw {f : Addr} {fd fdD fdL fdW : FuncData} (F : Fun K "_law_select_written" "_law_select_written" sSelW f fd) (T : TxtL K mg fD fP)
    (GD : FnOk P w K mg base CX0 1 fD fdD ["_law_source_here", "_law_many"] spDraw) (bD : Binds K fdD ["_law_source_here", "_law_many"] [])
    (cL : Calls K mg "_law_listed" fL) (GL : FnOk P w K mg base CX0 4 fL fdL ["_law_source_here", "_law_kind", "_law_most"] (spListed K)) (bL : Binds K fdL ["_law_source_here", "_law_kind", "_law_most"] [])
    (cW : Calls K mg "_law_where" fW) (GW : FnOk P w K mg base CX0 5 fW fdW ["_law_source_here"] (spLWhere K)) (bW : Binds K fdW ["_law_source_here"] []) :
    FnOk P w K mg base CX0 6 f fd ["_law_source_here"] (spSelW K) := by
  refine F.ok scSelW (fun vs H Q E h => ?_) (fun cdv A outer s H vs Q E hr h => ?_)
  · obtain ⟨s, l, ms, z, b, rfl, _⟩ := h
    rfl
  · obtain ⟨a, l, ms, z, b, rfl, hs, b0, b1, k⟩ := h
    have hr1 : Room 1 _ := hr.mono (by decide)
    have hr4 : Room 4 _ := hr.mono (by decide)
    have big : sizeLine > 100000 := by decide
    refine ⟨_, pss_cons (ps_set (i := 1) scSelW.nd rfl (Or.inl rfl) (pe_op op_add_str (pe_op op_add_str pe_str (pe_call GL hr4 rfl cL.g cL.k bL .nil pass0 (pa_cons (pv 0) (pa_cons pe_str (pa_cons pe_int pa_nil))))) (pe_call GW hr rfl cW.g cW.k bW .nil pass0 (pa_cons (pv 0) pa_nil))))
      (pss_cons (ps_for PassesOwn.never rfl (pi_range1 rfl T.range (pa_cons (pe_call GD hr1 rfl T.gD T.kD bD .nil pass0 (pa_cons (pv 0) (pa_cons pe_int pa_nil))) pa_nil)) (pg_name (i := 2) scSelW.nd rfl (Or.inl rfl))
        (pss_one (ps_set (i := 1) scSelW.nd rfl (Or.inl rfl) (pe_op op_add_str (pe_op op_add_str (pe_op op_add_str (pv 1) pe_str) (pe_call GL hr4 rfl cL.g cL.k bL .nil pass0 (pa_cons (pv 0) (pa_cons pe_str (pa_cons pe_int pa_nil))))) (pe_call GW hr rfl cW.g cW.k bW .nil pass0 (pa_cons (pv 0) pa_nil))))))
      (pss_one (ps_ret (pe_lst (pa_cons (pv 1) (pa_cons (pe_op op_add_str pe_str (pe_call GL hr4 rfl cL.g cL.k bL .nil pass0 (pa_cons (pv 0) (pa_cons pe_str (pa_cons pe_int pa_nil))))) pa_nil)))))), ?_⟩
    have tf : TxC 5 0 0 0 "from " := txB_ok (by decide +kernel)
    have tn : TxC 9 0 0 0 " without " := txB_ok (by decide +kernel)
    have en : tl (" without " : Str) = 32 :: [119, 105, 116, 104, 111, 117, 116, 32] := by decide +kernel
    have tk : TxC 6 0 0 0 " keep " := txB_ok (by decide +kernel)
    have ek : tl (" keep " : Str) = 32 :: [107, 101, 101, 112, 32] := by decide +kernel
    have lf := tf.len
    have ln := tn.len
    have lk := tk.len
    refine ⟨_, rfl, a, l, _, ms, z, b, 4, rfl, hs, by omega, by omega, by decide, by decide, fun H1 ms1 b1' x k1 hs1 c1 c2 tx => ?_⟩
    have lx := tx.len
    refine ⟨_, _, rfl, rfl, by omega, ?_⟩
    refine ⟨_, rfl, a, l, ms1, z, b1', rfl, hs1, by omega, by omega, fun H2 ms2 b2 y k2 hs2 c3 c4 ty hy => ?_⟩
    have ly := ty.len
    have t0 := (tf.app tx).appS (ty.mono (Nat.le_refl _) (by decide) (Nat.le_refl _) (Nat.le_refl _)) hy
    have l0 := (tf.app tx).len
    refine ⟨_, _, rfl, rfl, by omega, ?_⟩
    have t0 : TxC 208 12 7 0 ("from " ++ x ++ y) := t0.mono (by decide) (by decide) (by decide) (by decide)
    show tSeq _ _ _ _ _
    refine ⟨_, rfl, a, l, ms2, z, b2, 4, rfl, hs2, by decide, by decide, by omega, by omega, fun H3 ms3 r k3 hs3 r0 rn => ?_⟩
    obtain ⟨m, rfl⟩ : ∃ m : Nat, r = (m : Int) := ⟨r.toNat, by omega⟩
    have k13 := (k1.trans k2).trans k3
    refine ⟨(m : Int), rfl, by omega, by omega, for_range (lo := 0) (n := m) (fun i σ H' => ∃ (ms' : List Int) (b' : Int) (u : Str) (v2 : Option V), σ = [some (.ref a), some (.str u), v2] ∧ But a l H H' ∧ Src H' a l ms' z b' ∧ b ≤ b' ∧ b' ≤ b + 131 + 130 * (i : Int) ∧ TxC (208 + 156 * i) 12 (7 + 5 * i) 0 u) ⟨ms3, b2 + 1, _, none, rfl, k13, hs3, by omega, by omega, t0⟩ ?_ ?_⟩
    · rintro i σ H4 hi ⟨ms4, b4, u, v2, rfl, k4, hs4, d1, d2, tu⟩
      have lu := tu.len
      refine ⟨_, rfl, _, _, rfl, rfl, by omega, ?_⟩
      refine ⟨_, rfl, a, l, _, ms4, z, b4, 2, rfl, hs4, by omega, by omega, by decide, by decide, fun H5 ms5 b5 x2 k5 hs5 c5 c6 tx2 => ?_⟩
      have lx2 := tx2.len
      have l5 := (tu.app tn).len
      refine ⟨_, _, rfl, rfl, by omega, ?_⟩
      refine ⟨_, rfl, a, l, ms5, z, b5, rfl, hs5, by omega, by omega, fun H6 ms6 b6 y2 k6 hs6 c7 c8 ty2 hy2 => ?_⟩
      have ly2 := ty2.len
      have l6 := ((tu.app tn).app tx2).len
      refine ⟨_, _, rfl, rfl, by omega, ?_⟩
      have e : u ++ " without " ++ x2 ++ y2 = u ++ ((" without " ++ x2) ++ y2) := by rw [assocS u, assocS u]
      have tq := ((tn.app tx2).mono (L' := 65) (R' := 12) (C' := 2) (M' := 0) (by decide) (by decide) (by decide) (by decide)).appS ty2 hy2
      have tu2 := tu.appS tq (.inr (hdS.app (hdS.app ⟨_, en⟩)))
      refine ⟨ms6, b6, _, _, rfl, (k4.trans k5).trans k6, hs6, by omega, by omega, ?_⟩
      rw [e]
      exact tu2.mono (by omega) (Nat.le_refl _) (by omega) (by decide)
    · rintro σ H4 ⟨ms4, b4, u, v2, rfl, k4, hs4, d1, d2, tu⟩
      refine ⟨_, rfl, _, rfl, a, l, _, ms4, z, b4, 5, rfl, hs4, by omega, by omega, by decide, by decide, fun H5 ms5 b5 x2 k5 hs5 c5 c6 tx2 => ?_⟩
      have lx2 := tx2.len
      refine ⟨_, _, rfl, rfl, by omega, ?_⟩
      refine ⟨by show 2 ≤ sizeLine; omega, fun p hp => ?_⟩
      have fp := hs5.free hp
      have k45 := k4.trans k5
      have hp0 := k45.back hs5 hp
      exact k _ _ _ p u _ (k45.put hp0) (hs5.put fp) (by omega) (by omega) hp0 upd_same (tu.mono (by omega) (Nat.le_refl _) (by omega) (by decide)) ((tk.app tx2).mono (by decide) (by decide) (by decide) (by decide)) (.inr (hdS.app ⟨_, ek⟩))
end
end Vm
/-! the law's texts: questions -/
namespace Vm
open PySem PySem.Spec PyProof.Rows L2 TL
abbrev sWritten : Stmt := top 53
def spWritten (K : PySem.W.Frag) : Sp := fun vs H Q _ => ∃ (s l : Addr) (ms : List Int) (z b : Int), vs = [.ref s] ∧ Src H s l ms z b ∧ 0 ≤ b ∧ b < 860000 ∧
  ∀ (H' : Hp) (ms' : List Int) (b' : Int) (x : Str), But s l H H' → Src H' s l ms' z b' → b ≤ b' → b' ≤ b + 1600 → TxC 1660 13 60 0 x → Q (.str x) H'
theorem join_two (x y : Str) : Txt.join "" [x, y] = x ++ y := ext_tl (by
  rw [join_eq, tl_join, tl_append]
  show tl x ++ (tl ("" : Str) ++ tl y) = tl x ++ tl y
  have e : tl ("" : Str) = [] := by decide +kernel
  rw [e]
  rfl)
def cntIs : List Int := [1, 2, 10 ^ 12, 0, -1]
theorem cntIs_ok : ∀ i ∈ cntIs, i.natAbs.log2 < 1920 ∧ TxC 13 13 0 0 (toString i : Str) := by
  have h : cntIs.all (fun i => decide (i.natAbs.log2 < 1920) && txB 13 13 0 0 (toString i : Str)) = true := by decide +kernel
  intro i m
  have := List.all_eq_true.mp h i m
  rw [Bool.and_eq_true, decide_eq_true_iff] at this
  exact ⟨this.1, txB_ok this.2⟩
section
variable {P : Program} {w : World} {K : PySem.W.Frag} {mg : Str → Option Value} {base : Heap} {fD fP fL fS fE : Addr}
abbrev nmWritten : List Str := ["_law_source_here", "_law_some", "_law_way", "_law_rest", "_law_word", "_law_written_here", "_law_count"]
theorem scWritten : FnScope nmWritten ["_law_source_here"] (defScope sWritten) := ⟨rfl, rfl, rfl, by decide +kernel, rfl, by decide +kernel, by decide +kernel⟩
theorem ok_written {f : Addr} {fd fdD fdP fdL fdS fdE : FuncData} (F : Fun K "_law_written" "_law_written" sWritten f fd) (T : TxtL K mg fD fP) (str : mg "str" = none)
    (GD : FnOk P w K mg base CX0 1 fD fdD ["_law_source_here", "_law_many"] spDraw) (bD : Binds K fdD ["_law_source_here", "_law_many"] [])
    (GP : FnOk P w K mg base CX0 2 fP fdP ["_law_source_here", "_law_items"] (spPick K)) (bP : Binds K fdP ["_law_source_here", "_law_items"] [])
    (cE : Calls K mg "_law_entry" fE) (GE : FnOk P w K mg base CX0 3 fE fdE ["_law_source_here", "_law_kind"] (spEntry K)) (bE : Binds K fdE ["_law_source_here", "_law_kind"] [])
    (cL : Calls K mg "_law_listed" fL) (GL : FnOk P w K mg base CX0 4 fL fdL ["_law_source_here", "_law_kind", "_law_most"] (spListed K)) (bL : Binds K fdL ["_law_source_here", "_law_kind", "_law_most"] [])
    (cS : Calls K mg "_law_select_written" fS) (GS : FnOk P w K mg base CX0 6 fS fdS ["_law_source_here"] (spSelW K)) (bS : Binds K fdS ["_law_source_here"] []) :
    FnOk P w K mg base CX0 7 f fd ["_law_source_here"] (spWritten K) := by
  refine F.ok scWritten (fun vs H Q E h => ?_) (fun cdv A outer s H vs Q E hr h => ?_)
  · obtain ⟨s, l, ms, z, b, rfl, _⟩ := h
    rfl
  · obtain ⟨a, l, ms, z, b, rfl, hs, b0, b1, k⟩ := h
    have hr1 : Room 1 _ := hr.mono (by decide)
    have hr2 : Room 2 _ := hr.mono (by decide)
    have hr3 : Room 3 _ := hr.mono (by decide)
    have hr4 : Room 4 _ := hr.mono (by decide)
    have big : sizeLine > 100000 := by decide
    refine ⟨_, pss_cons (ps_par (i := 1) (j := 2) rfl scWritten.nd rfl rfl (by decide) rfl rfl (pa_cons (pe_call GS hr rfl cS.g cS.k bS .nil pass0 (pa_cons (pv 0) pa_nil)) (pa_cons (pe_call GD hr1 rfl T.gD T.kD bD .nil pass0 (pa_cons (pv 0) (pa_cons pe_int pa_nil))) pa_nil)) rfl)
      (pss_cons (ps_if (pt_cmpR op_lt (pv 2) pe_int (nomark _))
        (pss_cons (ps_set (i := 3) scWritten.nd rfl (Or.inl rfl) (pe_ix ix_list (pe_lst (pa_cons (pe_op op_add_str pe_str (pe_call GL hr4 rfl cL.g cL.k bL .nil pass0 (pa_cons (pv 0) (pa_cons pe_str (pa_cons pe_int pa_nil))))) (pa_cons pe_str pa_nil))) (pe_call GD hr1 rfl T.gD T.kD bD .nil pass0 (pa_cons (pv 0) (pa_cons pe_int pa_nil))) (fun _ _ => rfl)))
        (pss_cons (ps_for PassesOwn.never rfl (pi_tup (pe_tupF (pa_cons pe_str (pa_cons pe_str pa_nil)))) (pg_name (i := 4) scWritten.nd rfl (Or.inl rfl))
          (pss_one (ps_set (i := 3) scWritten.nd rfl (Or.inl rfl) (pe_op op_add_str (pv 3) (pe_call GP hr2 rfl T.gP T.kP bP .nil pass0 (pa_cons (pv 0) (pa_cons (pe_lst (pa_cons (pe_op op_add_str (pe_op op_add_str (pe_op op_add_str pe_str (pv 4)) pe_str) (pe_call GE hr3 rfl cE.g cE.k bE .nil pass0 (pa_cons (pv 0) (pa_cons pe_str pa_nil)))) (pa_cons pe_str pa_nil))) pa_nil)))))))
        (pss_one (ps_ret (pe_op op_add_str (pe_op op_add_str (pe_op op_add_str (pe_ix ix_list (pv 1) pe_int (fun _ _ => rfl)) pe_str) (pv 3)) (pe_call GP hr2 rfl T.gP T.kP bP .nil pass0 (pa_cons (pv 0) (pa_cons (pe_lst (pa_cons (pe_op op_add_str pe_str (pe_call GL hr4 rfl cL.g cL.k bL .nil pass0 (pa_cons (pv 0) (pa_cons pe_str (pa_cons pe_int pa_nil))))) (pa_cons pe_str pa_nil))) pa_nil)))))))) pss_nil)
      (pss_cons (ps_set (i := 5) scWritten.nd rfl (Or.inl rfl) (pe_join pe_str (pv 1)))
      (pss_cons (ps_if (pt_cmpR op_eq (pv 2) pe_int (nomark _)) (pss_one (ps_ret (pe_op op_add_str (pe_op op_add_str (pv 5) pe_str) (pe_join pe_str (pe_call GS hr rfl cS.g cS.k bS .nil pass0 (pa_cons (pv 0) pa_nil)))))) pss_nil)
      (pss_cons (ps_if (pt_cmpR op_eq (pv 2) pe_int (nomark _))
        (pss_cons (ps_set (i := 6) scWritten.nd rfl (Or.inl rfl) (pe_callTy call_str_int (by rfl) str (by decide +kernel) (pa_cons (pe_call GP hr2 rfl T.gP T.kP bP .nil pass0 (pa_cons (pv 0) (pa_cons (pe_lst (pa_cons pe_int (pa_cons pe_int (pa_cons (pe_op op_pow pe_int pe_int) (pa_cons pe_int (pa_cons (pe_un un_neg pe_int) pa_nil)))))) pa_nil))) pa_nil)))
        (pss_one (ps_ret (pe_op op_add_str (pe_op op_add_str (pe_op op_add_str (pe_op op_add_str (pe_op op_add_str (pv 5) pe_str) (pv 6)) pe_str) (pe_call GE hr3 rfl cE.g cE.k bE .nil pass0 (pa_cons (pv 0) (pa_cons pe_str pa_nil)))) (pe_op op_mulS pe_str (pe_call GD hr1 rfl T.gD T.kD bD .nil pass0 (pa_cons (pv 0) (pa_cons pe_int pa_nil)))))))) pss_nil)
      (pss_one (ps_ret (pv 5))))))), ?_⟩
    have adds : ∀ {x y : Str} {L R C M l r c m : Nat}, TxC L R C M x → TxC l r c m y → L + l ≤ 10000 → x.length + y.length ≤ sizeLine := fun hx hy le => by
      have a := hx.len
      have b := hy.len
      omega
    have fits2 : ∀ {x y : Str} {L R C M l r c m : Nat}, TxC L R C M x → TxC l r c m y → L + l ≤ 10000 → (([x, y] : List Str).map (·.length)).sum + ([x, y] : List Str).length * ("" : Str).length ≤ 16777216 := fun {x y} {_ _ _ _ _ _ _ _} hx hy le => by
      have a := hx.len
      have b := hy.len
      have e : ("" : Str).length = 0 := by decide
      show x.length + (y.length + 0) + 2 * ("" : Str).length ≤ 16777216
      rw [e]
      omega
    have w0 : ∀ {L : Nat} {x : Str}, txB L 0 0 0 x = true → TxC L 0 0 0 x := fun h => txB_ok h
    refine ⟨_, rfl, a, l, ms, z, b, rfl, hs, b0, by omega, fun H1 ms1 b1' p x y k1 hs1 c1 c2 hp ep tx ty hy => ?_⟩
    have fp := hs.free hp
    refine ⟨_, rfl, a, l, ms1, z, b1', 5, rfl, hs1, by decide, by decide, by omega, by omega, fun H2 ms2 r k2 hs2 r0 rn => ?_⟩
    have ep2 := k2 _ _ fp.1 fp.2 ep
    have k02 := k1.trans k2
    refine ⟨_, _, rfl, ?_⟩
    have tw : TxC 826 12 27 0 (x ++ y) := (tx.appS ty hy).mono (by decide) (by decide) (by decide) (by decide)
    refine ⟨_, rfl, _, _, rfl, rfl, _, rfl, ?_⟩
    refine ite_ (fun _ => ?_) (fun _ => ?_)
    · have tsp : TxC 1 0 0 0 " " := w0 (by decide +kernel)
      have esp : tl (" " : Str) = 32 :: [] := by decide +kernel
      have tnil : TxC 0 0 0 0 "" := w0 (by decide +kernel)
      have tgr : TxC 6 0 0 0 " group" := w0 (by decide +kernel)
      have egr : tl (" group" : Str) = 32 :: [103, 114, 111, 117, 112] := by decide +kernel
      have thv : TxC 8 0 0 0 " having " := w0 (by decide +kernel)
      have ehv : tl (" having " : Str) = 32 :: [104, 97, 118, 105, 110, 103, 32] := by decide +kernel
      have hnil : hdS ("" : Str) := .inl (by decide +kernel)
      refine ⟨_, rfl, a, l, _, ms2, z, b1' + 1, 3, rfl, hs2, by omega, by omega, by decide, by decide, fun H3 ms3 b3 x3 k3 hs3 c3 c4 tx3 => ?_⟩
      refine ⟨_, _, rfl, rfl, adds tsp tx3 (by decide), ?_⟩
      refine ⟨by show 2 ≤ sizeLine; omega, fun c hc => ?_⟩
      have fc := hs3.free hc
      have s3 := same_upd (o := .lst [V.str (" " ++ x3), .str ""]) hc
      refine ⟨_, rfl, a, l, ms3, z, b3, 2, rfl, hs3.put fc, by decide, by decide, by omega, by omega, fun H4 ms4 r4 k4 hs4 r40 r41 => ?_⟩
      have ec := k4 _ _ fc.1 fc.2 upd_same
      have k04 : But a l H H4 := fun b o n1 n2 e => k4 _ _ n1 n2 (s3 _ _ (k3 _ _ n1 n2 (k02 _ _ n1 n2 e)))
      have at4 : ∃ u : Str, atI [V.str (" " ++ x3), .str ""] r4 = some (.str u) ∧ TxC 85 12 3 0 u ∧ hdS u := by
        obtain ⟨n, rfl⟩ : ∃ n : Nat, r4 = (n : Int) := ⟨r4.toNat, by omega⟩
        match n, r41 with
        | 0, _ => exact ⟨_, rfl, (tsp.app tx3).mono (by decide) (by decide) (by decide) (by decide), .inr (hdS.app ⟨_, esp⟩)⟩
        | 1, _ => exact ⟨_, rfl, tnil.mono (by decide) (by decide) (by decide) (by decide), hnil⟩
        | n + 2, h => exact absurd h (by omega)
      obtain ⟨u, au, tu, hu⟩ := at4
      refine ⟨c, _, r4, .str u, rfl, rfl, SqL.of ec, au, ?_⟩
      have ep4 : H4 p = some (.lst [V.str x, V.str y]) := k4 _ _ fp.1 fp.2 (s3 _ _ (k3 _ _ fp.1 fp.2 ep2))
      refine ⟨by show 2 ≤ sizeLine; omega, fun q o hq ho => ?_⟩
      have s5 := same_upd (o := .frz o (.tup ([("least" : Str), "greatest"].map V.str))) hq
      have e5q : upd H4 q (.frz o (.tup ([("least" : Str), "greatest"].map V.str))) q = some (.frz o (.tup ([("least" : Str), "greatest"].map V.str))) := upd_same
      have fq := hs4.free hq
      have ep5 := s5 _ _ ep4
      have hs5 := hs4.but s5
      have k05 : But a l H (upd H4 q (.frz o (.tup ([("least" : Str), "greatest"].map V.str)))) := fun b o' n1 n2 e => s5 _ _ (k04 _ _ n1 n2 e)
      refine ⟨q, rfl, ⟨_, .inl (.inr ⟨o, e5q⟩)⟩, for_tup (K := K) (a := q) (xs := [("least" : Str), "greatest"].map V.str) (fun i σ H' => ∃ (ms' : List Int) (b' : Int) (u : Str) (v4 : Option V), σ = [some (.ref a), some (.ref p), some (.int r), some (.str u), v4, none, none] ∧ But a l H H' ∧ Src H' a l ms' z b' ∧ b ≤ b' ∧ b' ≤ b3 + 1 + 20 * (i : Int) ∧ H' p = some (.lst [V.str x, V.str y]) ∧ H' q = some (.frz o (.tup ([("least" : Str), "greatest"].map V.str))) ∧ TxC (85 + 40 * i) 12 (3 + i) 0 u ∧ hdS u)
        ⟨ms4, b3 + 1, u, none, rfl, k05, hs5, by omega, by omega, ep5, e5q, tu, hu⟩ (fun i σ H' _ ⟨_, _, _, _, _, _, _, _, _, _, e, _⟩ => .inl (.inr ⟨o, e⟩)) ?_ ?_⟩
      · rintro i x5 σ H6 hi ⟨ms6, b6, u6, v4, rfl, k6, hs6, d1, d2, ep6, eq6, tu6, hu6⟩
        have li : i < 2 := (List.getElem?_eq_some_iff.mp hi).1
        obtain ⟨wd, rfl, twd⟩ : ∃ wd : Str, x5 = .str wd ∧ TxC 8 0 0 0 wd := by
          match i, li with
          | 0, _ => exact ⟨_, (Option.some.inj hi).symm, w0 (by decide +kernel)⟩
          | 1, _ => exact ⟨_, (Option.some.inj hi).symm, w0 (by decide +kernel)⟩
        have l6 := tu6.len
        refine ⟨_, rfl, _, rfl, _, rfl, _, _, rfl, rfl, adds tsp twd (by decide), _, _, rfl, rfl, adds (tsp.app twd) tsp (by decide), ?_⟩
        refine ⟨_, rfl, a, l, _, ms6, z, b6, rfl, hs6, by omega, by omega, fun H7 ms7 b7 x7 k7 hs7 e1 e2 tx7 => ?_⟩
        have tw7 := ((tsp.app twd).app tsp).app tx7
        refine ⟨_, _, rfl, rfl, adds ((tsp.app twd).app tsp) tx7 (by decide), ?_⟩
        have hw7 : hdS (" " ++ wd ++ " " ++ x7) := .inr (hdS.app (hdS.app (hdS.app ⟨_, esp⟩)))
        generalize " " ++ wd ++ " " ++ x7 = y7 at tw7 hw7 ⊢
        refine ⟨by show 2 ≤ sizeLine; omega, fun c7 hc7 => pick_of (E := E0) hs7 (by omega) (by omega) hc7 (by show 0 < 2; decide) (by show 2 ≤ 1000; decide) fun H8 ms8 v k8 hs8 m => ?_⟩
        obtain ⟨g, mg', rfl⟩ := str_mem (xs := [y7, ""]) m
        have tg : TxC 40 12 1 0 g ∧ hdS g := by
          simp only [List.mem_cons, List.not_mem_nil, or_false] at mg'
          rcases mg' with e | e <;> subst e
          · exact ⟨tw7.mono (by decide) (by decide) (by decide) (by decide), hw7⟩
          · exact ⟨tnil.mono (by decide) (by decide) (by decide) (by decide), hnil⟩
        have lg := tg.1.len
        refine ⟨_, _, rfl, rfl, by omega, ?_⟩
        have hug : hdS (u6 ++ g) := by
          rcases hu6 with e | e
          · rcases tg.2 with e' | ⟨r', e'⟩
            · exact .inl (by rw [tl_append, e, e']; rfl)
            · exact .inr ⟨r', by rw [tl_append, e, e']; rfl⟩
          · exact .inr (hdS.app e)
        exact ⟨ms8, b7 + 1, u6 ++ g, _, rfl, (k6.trans k7).trans k8, hs8, by omega, by omega, k8 _ _ fp.1 fp.2 (k7 _ _ fp.1 fp.2 ep6), k8 _ _ fq.1 fq.2 (k7 _ _ fq.1 fq.2 eq6), (tu6.appS tg.1 tg.2).mono (by omega) (by decide) (by omega) (by decide), hug⟩
      · rintro σ H6 ⟨ms6, b6, u6, v4, rfl, k6, hs6, d1, d2, ep6, eq6, tu6, hu6⟩
        have tu6 : TxC 165 12 5 0 u6 := tu6
        have d2 : b6 ≤ b3 + 1 + 40 := d2
        refine ⟨_, rfl, p, _, _, .str x, rfl, rfl, SqL.of ep6, rfl, _, _, rfl, rfl, adds tx tgr (by decide), _, rfl, _, _, rfl, rfl, adds (tx.app tgr) tu6 (by decide), ?_⟩
        have t7 := tx.appS ((tgr.app tu6).mono (Nat.le_refl _) (R' := 12) (by decide) (Nat.le_refl _) (Nat.le_refl _)) (.inr (hdS.app ⟨_, egr⟩))
        rw [← assocS] at t7
        generalize x ++ " group" ++ u6 = y7 at t7 ⊢
        refine ⟨_, rfl, _, rfl, a, l, _, ms6, z, b6, 3, rfl, hs6, by omega, by omega, by decide, by decide, fun H7 ms7 b7 x7 k7 hs7 e1 e2 tx7 => ?_⟩
        refine ⟨_, _, rfl, rfl, adds thv tx7 (by decide), ?_⟩
        refine ⟨by show 2 ≤ sizeLine; omega, fun c7 hc7 => pick_of (E := E0) hs7 (by omega) (by omega) hc7 (by show 0 < 2; decide) (by show 2 ≤ 1000; decide) fun H8 ms8 v k8 hs8 m => ?_⟩
        obtain ⟨g, mg', rfl⟩ := str_mem (xs := [" having " ++ x7, ""]) m
        have tg : TxC 92 12 3 0 g ∧ hdS g := by
          simp only [List.mem_cons, List.not_mem_nil, or_false] at mg'
          rcases mg' with e | e <;> subst e
          · exact ⟨(thv.app tx7).mono (by decide) (by decide) (by decide) (by decide), .inr (hdS.app ⟨_, ehv⟩)⟩
          · exact ⟨tnil.mono (by decide) (by decide) (by decide) (by decide), hnil⟩
        refine ⟨_, _, rfl, rfl, adds t7 tg.1 (by decide), ?_⟩
        exact k _ _ _ _ ((k6.trans k7).trans k8) hs8 (by omega) (by omega) ((t7.appS tg.1 tg.2).mono (by decide) (by decide) (by decide) (by decide))
    refine ⟨⟨_, rfl⟩, _, rfl, _, p, [x, y], rfl, rfl, .inl (SqL.of ep2), fits2 tx ty (by decide), ?_⟩
    rw [join_two]
    generalize x ++ y = wr at tw ⊢
    refine ⟨_, rfl, rfl, _, rfl, ?_⟩
    refine ite_ (fun _ => ?_) (fun _ => ?_)
    · have tor : TxC 4 0 0 0 " or " := w0 (by decide +kernel)
      have eo : tl (" or " : Str) = 32 :: [111, 114, 32] := by decide +kernel
      refine ⟨_, rfl, _, _, rfl, rfl, adds tw tor (by decide), ⟨_, rfl⟩, _, rfl, a, l, ms2, z, b1' + 1, rfl, hs2, by omega, by omega, fun H3 ms3 b3 q x2 y2 k3 hs3 c3 c4 hq eq tx2 ty2 hy2 => ?_⟩
      have tw2 : TxC 826 12 27 0 (x2 ++ y2) := (tx2.appS ty2 hy2).mono (by decide) (by decide) (by decide) (by decide)
      refine ⟨_, q, [x2, y2], rfl, rfl, .inl (SqL.of eq), fits2 tx2 ty2 (by decide), ?_⟩
      rw [join_two]
      refine ⟨_, _, rfl, rfl, adds (tw.app tor) tw2 (by decide), ?_⟩
      rw [assocS]
      exact k _ _ _ _ (k02.trans k3) hs3 (by omega) (by omega) ((tw.appS ((tor.app tw2).mono (Nat.le_refl _) (by decide) (Nat.le_refl _) (Nat.le_refl _)) (.inr (hdS.app ⟨_, eo⟩))).mono (by decide) (by decide) (by decide) (by decide))
    refine ⟨_, rfl, rfl, _, rfl, ?_⟩
    refine ite_ (fun _ => ?_) (fun _ => ?_)
    · have tfi : TxC 7 0 0 0 " first " := w0 (by decide +kernel)
      have efi : tl (" first " : Str) = 32 :: [102, 105, 114, 115, 116, 32] := by decide +kernel
      have tby : TxC 4 0 0 0 " by " := w0 (by decide +kernel)
      have eby : tl (" by " : Str) = 32 :: [98, 121, 32] := by decide +kernel
      refine ⟨_, rfl, _, _, rfl, rfl, ⟨by decide, by decide, by decide⟩, _, rfl, by show 5 ≤ sizeLine; omega, fun c3 hc3 => pick_of (E := E0) hs2 (by omega) (by omega) hc3 (by show 0 < 5; decide) (by show 5 ≤ 1000; decide) fun H6 ms6 v k6 hs6 m => ?_⟩
      obtain ⟨far, m5, ef⟩ := List.mem_map.mp (show v ∈ cntIs.map V.int from m)
      subst ef
      obtain ⟨fl, tfar⟩ := cntIs_ok far m5
      refine ⟨far, rfl, fl, ?_⟩
      generalize (toString far : Str) = fr at tfar ⊢
      refine ⟨_, rfl, _, _, rfl, rfl, adds tw tfi (by decide), _, rfl, _, _, rfl, rfl, adds (tw.app tfi) tfar (by decide), _, _, rfl, rfl, adds ((tw.app tfi).app tfar) tby (by decide), ?_⟩
      refine ⟨_, rfl, a, l, _, ms6, z, _, rfl, hs6, by omega, by omega, fun H7 ms7 b7 x7 k7 hs7 e1 e2 tx7 => ?_⟩
      have tq := ((tfi.app tfar).mono (L' := 20) (R' := 13) (C' := 0) (M' := 0) (by decide) (by decide) (by decide) (by decide)).appS ((tby.app tx7).mono (L' := 30) (R' := 13) (C' := 0) (M' := 0) (by decide) (by decide) (by decide) (by decide)) (.inr (hdS.app ⟨_, eby⟩))
      have eq1 : wr ++ " first " ++ fr ++ " by " ++ x7 = wr ++ ((" first " ++ fr) ++ (" by " ++ x7)) := by simp only [assocS]
      have t7 := (tw.mono (L' := 826) (R' := 13) (C' := 27) (M' := 0) (by decide) (by decide) (by decide) (by decide)).appS tq (.inr (hdS.app (hdS.app ⟨_, efi⟩)))
      rw [← eq1] at t7
      refine ⟨_, _, rfl, rfl, adds ((((tw.app tfi).app tfar).app tby)) tx7 (by decide), ?_⟩
      generalize wr ++ " first " ++ fr ++ " by " ++ x7 = y7 at t7 ⊢
      refine ⟨_, rfl, a, l, ms7, z, b7, 2, rfl, hs7, by decide, by decide, by omega, by omega, fun H8 ms8 r8 k8 hs8 r80 r81 => ?_⟩
      obtain ⟨tf, ef, mok⟩ : TxC 8 0 0 0 (Txt.mul " falling" r8) ∧ hdS (Txt.mul " falling" r8) ∧ MulOk " falling" r8 := by
        obtain ⟨n, rfl⟩ : ∃ n : Nat, r8 = (n : Int) := ⟨r8.toNat, by omega⟩
        match n, r81 with
        | 0, _ => exact ⟨w0 (by decide +kernel), .inl (by decide +kernel), by decide +kernel, fun h => absurd (by decide) h, fun h => absurd (by decide) h⟩
        | 1, _ => exact ⟨w0 (by decide +kernel), .inr ⟨[102, 97, 108, 108, 105, 110, 103], by decide +kernel⟩, by decide +kernel, fun _ _ => by decide +kernel, fun _ _ => by decide +kernel⟩
        | n + 2, h => exact absurd h (by omega)
      refine ⟨_, _, rfl, rfl, mok, ?_⟩
      generalize Txt.mul " falling" r8 = fa at tf ef ⊢
      refine ⟨_, _, rfl, rfl, adds t7 tf (by decide), ?_⟩
      exact k _ _ _ _ (((k02.trans k6).trans k7).trans k8) hs8 (by omega) (by omega) ((t7.appS (tf.mono (Nat.le_refl _) (R' := 13) (by decide) (Nat.le_refl _) (Nat.le_refl _)) ef).mono (by decide) (by decide) (by decide) (by decide))
    exact ⟨_, rfl, k _ _ _ _ k02 hs2 (by omega) (by omega) (tw.mono (by decide) (by decide) (by decide) (by decide))⟩
end
end Vm
/-! text.replace(y, z, 1): the rule, and what it gives -/
namespace Vm
open PySem PySem.Spec PyProof.Rows L2 TL Builtin.Str
theorem rep1_tl (x y z : Str) : rep1 x y z = x ∨ ∃ i, rep1 x y z = glued z [strSub x 0 i, strSub x (i + y.length) x.length] ∧ tl (rep1 x y z) = (tl x).take i ++ tl z ++ (tl x).drop (i + y.length) := by
  have few := StrLaws.occ_length_le x y 0 x.length 1
  cases e : occurrences x y 0 x.length 1 with
  | nil =>
    refine .inl ?_
    unfold rep1
    rw [e]
    rfl
  | cons i r =>
    rw [e] at few
    have : r = [] := by
      cases r with
      | nil => rfl
      | cons _ _ => exact absurd few (by simp)
    subst this
    by_cases c : (y.length == 0 && z.length == 0) = true
    · refine .inl ?_
      unfold rep1
      rw [e, c]
      rfl
    · have g : rep1 x y z = glued z [strSub x 0 i, strSub x (i + y.length) x.length] := by
        unfold rep1
        rw [e, Bool.eq_false_iff.mpr c]
        rfl
      refine .inr ⟨i, g, ?_⟩
      rw [g]
      have a : tl (glued z [strSub x 0 i, strSub x (i + y.length) x.length]) = tl (strSub x 0 i) ++ tl z ++ tl (strSub x (i + y.length) x.length) := by
        show ((strSub x 0 i).cps ++ z.cps ++ (strSub x (i + y.length) x.length).cps).toList = _
        rw [Array.toList_append, Array.toList_append]
      rw [a, tl_strSub, tl_strSub_end, List.drop_zero, Nat.sub_zero]
theorem rep1_len (x y z : Str) : (rep1 x y z).length ≤ x.length + z.length := by
  rcases rep1_tl x y z with e | ⟨i, _, e⟩
  · rw [e]
    exact Nat.le_add_right _ _
  · rw [len_tl, e, len_tl x, len_tl z, List.length_append, List.length_append, List.length_take, List.length_drop]
    omega
section
variable {prog : Program} {w : World} {A : Around} {E : Value → Shared → Prop} {s : Shared} {x y z : Str} {t u v r : Tok} {Q : Value → Shared → Prop}
theorem call_replace1 (hu : u ≠ 0) (hv : v ≠ 0) (huv : u ≠ v) (hyz : (y == z) = false) (hb : x.length + z.length ≤ 1000000)
    (hq : ∀ t' k, Q (.str (rep1 x y z) t') { s with toks := k }) : wpAny (model prog w) A (call (.builtin "str.replace") [.str x t, .str y u, .str z v, .int 1 r]) Q E s := by
  have big : sizeLine > 1000000 := by decide
  have hl : tooLong (x.length + (occurrences x y 0 x.length 1).length * z.length) = false := by
    have h1 := StrLaws.occ_length_le x y 0 x.length 1
    have h2 : (occurrences x y 0 x.length 1).length * z.length ≤ 1 * z.length := Nat.mul_le_mul_right _ h1
    unfold tooLong
    exact decide_eq_false (by omega)
  have ln := rep1_len x y z
  refine PySem.call_gives PySem.F.slot_str_replace (typeIs_str _ _ _) PySem.F.entry_str_replace (PySem.F.args_str_replace_4 _ _ _ _)
    (gives_replace1 x y z t u v r fun _ => ⟨by simp [hu, hv], by simp [huv], hyz, hl⟩) ?_
  have hq' := hq
  unfold rep1 at hq' ln
  cases hc : ((occurrences x y 0 x.length 1).isEmpty || (y.length == 0 && z.length == 0))
  · rw [hc] at hq' ln
    simp only [Bool.false_eq_true, if_false] at hq' ln ⊢
    exact ⟨by omega, hq' _ _⟩
  · rw [hc] at hq'
    simp only [if_true] at hq' ⊢
    exact hq' t s.toks
end
def tRepl1 (to : TE) (y z : Str) : TE := fun σ H Q => to σ H fun v H1 => ∃ x, v = .str x ∧ x.length + z.length ≤ 1000000 ∧ Q (.str (rep1 x y z)) H1
section
variable {X : Cx} {o e : Expr} {es : List Expr} {te to : TE} {ta : TA} {r : R2} {y z c : Str} {j k l : Nat} {c0 c1 c2 apos pos p : Pos}
theorem pet_of (h : PE X e te) : PET X e te := fun pins s σ H Q _ I q => h.run pins s σ H Q I q
theorem pet_repl1 (ho : PE X o to) (hyz : (y == z) = false := by decide)
    (hst : starEach [.Constant (.str y) j c0, .Constant (.str z) k c1, .Constant (.int 1) l c2] X.env = [(false, eval (.Constant (.str y) j c0) X.env), (false, eval (.Constant (.str z) k c1) X.env), (false, eval (.Constant (.int 1) l c2) X.env)] := by rfl)
    (hbase : attributeBase o "replace" X.env (eval o X.env) = eval o X.env := by rfl) (hline : (apos.endLine == pos.line) = true := by rfl) :
    PET X (.Call (.Attribute o "replace" apos) [.Constant (.str y) j c0, .Constant (.str z) k c1, .Constant (.int 1) l c2] [] pos) (tRepl1 to y z) := by
  intro pins s σ H Q h0 I h
  refine PySem.wpAny_Call_method_lateS hbase (by rw [hst]; rfl) hline ?_
  rw [hst]
  refine wpAny_mono (PySem.wpAny_toks (ho.run pins s σ H _ I h)) (fun v s1 q => ?_) fun _ _ z => z.2
  obtain ⟨hk, v', H1, I1, r1, x, e1, hb, q⟩ := q
  subst e1
  obtain ⟨tx, e2⟩ := r1
  subst e2
  refine ⟨"str", _, PySem.F.plainAttrs_str, PySem.F.slot_str_replace, PySem.F.type_str_replace, typeIs_str _ _ _, (fun _ e => nomatch e), Calls.callWith_builtin rfl (Calls.evalArgs_plain (Calls.spliced_cons ?_))⟩
  refine Calls.Constant_str (k := j) (pos := c0) (Calls.spliced_cons ?_)
  refine Calls.Constant_str (k := k) (pos := c1) (Calls.spliced_cons ?_)
  refine wpAny_Constant_int (k := l) (pos := c2) (Calls.spliced_nil ?_)
  exact call_replace1 (by show s1.toks ≠ 0; omega) (by show s1.toks + 1 ≠ 0; omega) (by show s1.toks ≠ s1.toks + 1; omega) hyz hb fun t' k => ⟨.str (rep1 x y z), H1, I1.tok k, ⟨t', rfl⟩, q⟩
/-- behind it a token is out -/
def PE1 (X : Cx) (e : Expr) (te : TE) : Prop := ∀ (pins : List (Addr × Obj)) (s : Shared) (σ : L2.St) (H : Hp) (Q : VK), Inv X pins σ H s → te σ H Q → wpAny (model X.prog X.w) X.A (eval e X.env) (fun v s' => 1 ≤ s'.toks ∧ EP X pins σ Q v s') X.xe s
theorem pe1_addC (ho : OpR X (binaryOp .Add) r) (ha : PE X e te) : PE1 X (.BinOp e .Add (.Constant (.str c) j c0) pos) (tOp r te (tC (.str c))) := by
  intro pins s σ H Q I h
  refine wpAny_BinOp (thn (ha.run pins s σ H _ I h) fun v s1 ⟨x, H1, I1, r1, q1⟩ => ?_)
  refine Calls.Constant_str ?_
  refine wpAny_mono (PySem.wpAny_toks (ho pins _ σ H1 x (.str c) v (.str c s1.toks) Q (I1.tok (s1.toks + 1)) r1 ⟨_, rfl⟩ q1)) (fun u s2 q => ⟨?_, q.2⟩) fun _ _ z => z.2
  have : s1.toks + 1 ≤ s2.toks := q.1
  omega
theorem pa_cons1 (ha : PE1 X e te) (hr : PAT X es ta) (hs : starEach (e :: es) X.env = (false, eval e X.env) :: starEach es X.env := by rfl) : PA X (e :: es) (tCons te ta) := by
  refine ⟨fun pos pins s σ H Q I h => ?_⟩
  rw [hs]
  show wpAny _ _ (spliced ((false, eval e X.env) :: backTo pos (starEach es X.env))) _ _ s
  refine Calls.spliced_cons (thn (ha pins s σ H _ I h) fun u s1 ⟨h1, x, H1, I1, r1, q1⟩ => ?_)
  exact thn (hr pos pins s1 σ H1 _ h1 I1 q1) fun us s2 ⟨xs, H2, I2, r2, q2⟩ => ⟨x :: xs, H2, I2, .cons r1 r2, q2⟩
end
/-! bounds -/
theorem rep1_ok {L R C M : Nat} {x y z : Str} {s : Nat} (h : TxC L R C M x) (ez : tl z = [s, s]) (ns : ¬ dm s) (l : s < 128) (c : s ≠ 44) : TxC (L + 2) R C (M + 2) (rep1 x y z) := by
  rcases rep1_tl x y z with e | ⟨i, _, e⟩
  · rw [e]
    exact h.mono (by omega) (Nat.le_refl _) (Nat.le_refl _) (by omega)
  · have i1 : (tl x).take i <:+: tl x := (List.take_prefix i _).isInfix
    have i2 : (tl x).drop (i + y.length) <:+: tl x := (List.drop_suffix _ _).isInfix
    have cc : ∀ k, ((tl x).take i).count k + ((tl x).drop (i + y.length)).count k ≤ (tl x).count k := fun k => by
      have a : ((tl x).take i).count k + ((tl x).drop i).count k = (tl x).count k := by
        rw [← List.count_append, List.take_append_drop]
      have b : ((tl x).drop (i + y.length)).count k ≤ ((tl x).drop i).count k := by
        rw [show i + y.length = i + y.length from rfl, ← List.drop_drop]
        exact (List.drop_sublist _ _).count_le k
      omega
    rw [ez] at e
    have e' : tl (rep1 x y z) = (tl x).take i ++ s :: (s :: (tl x).drop (i + y.length)) := by
      rw [e]
      simp
    refine ⟨?_, fun k m => ?_, ?_, ?_, ?_⟩
    · have a := rep1_len x y z
      have b := h.len
      rw [len_tl z, ez] at a
      exact Nat.le_trans a (Nat.add_le_add_right b 2)
    · rw [e'] at m
      rcases List.mem_append.mp m with m | m
      · exact h.asc k (i1.subset m)
      · rcases List.mem_cons.mp m with q | m
        · rw [q]; exact l
        · rcases List.mem_cons.mp m with q | m
          · rw [q]; exact l
          · exact h.asc k (i2.subset m)
    · rw [e']
      exact (h.run.sub i1).cut ((NumRun.nil R).cut (h.run.sub i2) ns) ns
    · rw [e', List.count_append, List.count_cons_of_ne c, List.count_cons_of_ne c]
      have a := cc 44
      have b := h.cms
      omega
    · have a := cc 10
      have b := h.nls
      have d := List.count_le_length (a := 10) (l := [s, s])
      have e2 : (tl (rep1 x y z)).count 10 = ((tl x).take i).count 10 + ([s, s].count 10 + ((tl x).drop (i + y.length)).count 10) := by
        rw [e, List.append_assoc, List.count_append, List.count_append]
      have l2 : ([s, s] : List Nat).length = 2 := rfl
      omega
end Vm
/-! texts that are changed: words, signs, a comma that goes -/
namespace Vm
open PySem PySem.Spec PyProof.Rows L2 TL
theorem cut_take (xs : List V) (k : Nat) : cutV xs none (some (k : Int)) = xs.take k := by
  have e := HT.sIx_nat xs.length xs.length k
  unfold cutV
  rw [e]
  show (xs.drop 0).take (min k xs.length - 0) = _
  rw [List.drop_zero, Nat.sub_zero, List.take_eq_take_iff.mpr]
  omega
theorem subw_snoc (ws : List Str) (w : Str) : SubW (ws ++ [w]) (w :: ws) := by
  refine ⟨fun f => ?_, fun x m => ?_⟩
  · rw [sum_app]
    show _ + (f w + 0) ≤ f w + (ws.map f).sum
    omega
  · rcases List.mem_append.mp m with m | m
    · exact List.mem_cons_of_mem _ m
    · rw [List.mem_singleton.mp m]
      exact List.mem_cons_self
theorem WsC.mono {y : Str} {L R C M L' R' C' M' : Nat} {ws : List Str} (h : WsC y L R C M ws) (a : L ≤ L') (b : R ≤ R') (c : C ≤ C') (d : M ≤ M') : WsC y L' R' C' M' ws :=
  ⟨Nat.le_trans h.len (by omega), h.asc, fun w m => (h.run w m).mono b, Nat.le_trans h.cms (by omega), Nat.le_trans h.nls (by omega)⟩
/-- words of one kind -/
theorem WsC.all {y : Str} {l r c m a b d : Nat} (ha : (tl y).length = a) (hb : (tl y).count 44 = b) (hd : (tl y).count 10 = d) : ∀ {ws : List Str}, (∀ w ∈ ws, TxC l r c m w) → WsC y (ws.length * (l + a)) r (ws.length * (c + b)) (ws.length * (m + d)) ws
  | [], _ => ⟨Nat.zero_le _, (fun _ m => nomatch m), (fun _ m => nomatch m), Nat.zero_le _, Nat.zero_le _⟩
  | w :: ws, h => by
    have ih := WsC.all ha hb hd (ws := ws) fun x m => h x (List.mem_cons_of_mem _ m)
    have z := ih.cons (h w List.mem_cons_self)
    rw [ha, hb, hd] at z
    refine z.mono ?_ ?_ ?_ ?_
    · rw [List.length_cons, Nat.succ_mul]
      omega
    · omega
    · rw [List.length_cons, Nat.succ_mul]
      omega
    · rw [List.length_cons, Nat.succ_mul]
      omega
theorem WsC.append {y : Str} {L R C M l r c m : Nat} {ws us : List Str} (h : WsC y L R C M ws) (g : WsC y l r c m us) : WsC y (L + l + (tl y).length) (max R r) (C + c + (tl y).count 44) (M + m + (tl y).count 10) (ws ++ us) := by
  have ap : ∀ μ, sumM μ y (ws ++ us) = sumM μ y ws + sumM μ y us := fun μ => sum_app _ ws us
  have h1 := h.len
  have h2 := h.cms
  have h3 := h.nls
  have g1 := g.len
  have g2 := g.cms
  have g3 := g.nls
  refine ⟨by rw [ap]; omega, fun x m => ?_, fun x m => ?_, by rw [ap]; omega, by rw [ap]; omega⟩
  · exact (List.mem_append.mp m).elim (h.asc x) (g.asc x)
  · exact (List.mem_append.mp m).elim (fun m => (h.run x m).mono (Nat.le_max_left _ _)) fun m => (g.run x m).mono (Nat.le_max_right _ _)
/-- what join asks -/
theorem sum_len (y : Str) : ∀ ws : List Str, (ws.map (·.length)).sum + ws.length * y.length = sumM List.length y ws
  | [] => by rw [List.length_nil, Nat.zero_mul]; rfl
  | w :: ws => by
    have ih := sum_len y ws
    have e : sumM List.length y (w :: ws) = ((tl w).length + (tl y).length) + sumM List.length y ws := rfl
    rw [e, ← ih, ← len_tl, ← len_tl, List.length_cons, Nat.succ_mul]
    show (w.length + (ws.map (·.length)).sum) + _ = _
    omega
theorem WsC.fits {y : Str} {L R C M : Nat} {ws : List Str} (h : WsC y L R C M ws) (l : L + (tl y).length ≤ 16777216) : (ws.map (·.length)).sum + ws.length * y.length ≤ 16777216 := by
  rw [sum_len]
  exact Nat.le_trans h.len l
theorem sp_len : (tl (" " : Str)).length = 1 := by rw [sp_tl]; rfl
theorem sp_44 : (tl (" " : Str)).count 44 = 0 := by rw [sp_tl]; rfl
theorem sp_10 : (tl (" " : Str)).count 10 = 0 := by rw [sp_tl]; rfl
theorem nl_len : (tl ("\n" : Str)).length = 1 := by rw [nl_tl]; rfl
theorem nl_44 : (tl ("\n" : Str)).count 44 = 0 := by rw [nl_tl]; rfl
theorem nl_10 : (tl ("\n" : Str)).count 10 = 1 := by rw [nl_tl]; rfl
theorem WsC.snoc {y : Str} {L R C M l r c m : Nat} {w : Str} {ws : List Str} (h : WsC y L R C M ws) (g : TxC l r c m w) : WsC y (L + l + (tl y).length) (max R r) (C + c + (tl y).count 44) (M + m + (tl y).count 10) (ws ++ [w]) := (h.cons g).sub (subw_snoc ws w)
theorem cut_midI (xs : List V) (j k : Nat) (h : j ≤ xs.length) : cutV xs (some (j : Int)) (some ((j : Int) + (k : Int))) = (xs.drop j).take k := by
  have e1 : HT.sIx xs.length 0 (some (j : Int)) = min j xs.length := HT.sIx_nat _ 0 j
  have e2 : HT.sIx xs.length xs.length (some (((j + k : Nat)) : Int)) = min (j + k) xs.length := HT.sIx_nat _ _ (j + k)
  have e3 : (j : Int) + (k : Int) = ((j + k : Nat) : Int) := by omega
  show (xs.drop (HT.sIx xs.length 0 (some (j : Int)))).take (HT.sIx xs.length xs.length (some ((j : Int) + (k : Int))) - HT.sIx xs.length 0 (some (j : Int))) = _
  rw [e3, e1, e2, Nat.min_eq_left h, List.take_eq_take_iff, List.length_drop]
  omega
theorem cut_dropI (xs : List V) (j k : Nat) : cutV xs (some ((j : Int) + (k : Int))) none = xs.drop (j + k) := by
  have e3 : (j : Int) + (k : Int) = ((j + k : Nat) : Int) := by omega
  rw [e3, cut_drop]
theorem tl_cutT (x : Str) (k : Nat) : tl (cutS x none (some (k : Int))) = (tl x).take k := by
  have e : HT.sIx x.length x.length (some (k : Int)) = min k x.length := HT.sIx_nat x.length x.length k
  show ((tl x).drop 0).take (HT.sIx x.length x.length (some (k : Int)) - 0) = _
  rw [e, List.drop_zero, Nat.sub_zero, len_tl, List.take_eq_take_iff]
  omega
theorem tl_cutD (x : Str) (k : Nat) : tl (cutS x (some (k : Int)) none) = (tl x).drop k := by
  have e : HT.sIx x.length 0 (some (k : Int)) = min k x.length := HT.sIx_nat x.length 0 k
  show ((tl x).drop (HT.sIx x.length 0 (some (k : Int)))).take (x.length - HT.sIx x.length 0 (some (k : Int))) = _
  rw [e, List.take_of_length_le (by rw [List.length_drop, len_tl]; exact Nat.le_refl _), len_tl]
  by_cases h : k ≤ (tl x).length
  · rw [Nat.min_eq_left h]
  · rw [Nat.min_eq_right (by omega), List.drop_length, List.drop_of_length_le (by omega)]
/-- a sign more, another, one less -/
theorem ins_ok {L R C M : Nat} {x y : Str} {i j : Nat} {g : List Nat} (h : TxC L R C M x) (e : tl y = (tl x).take i ++ (g ++ (tl x).drop j)) (ij : i ≤ j) (lg : g.length ≤ 1) (ag : ∀ c ∈ g, c < 128) : TxC (L + 1) (2 * R + 1) (C + 1) (M + 1) y := by
  have i1 : (tl x).take i <:+: tl x := (List.take_prefix i _).isInfix
  have i2 : (tl x).drop j <:+: tl x := (List.drop_suffix _ _).isInfix
  have cc : ∀ k, ((tl x).take i).count k + ((tl x).drop j).count k ≤ (tl x).count k := fun k => by
    have a : ((tl x).take i).count k + ((tl x).drop i).count k = (tl x).count k := by
      rw [← List.count_append, List.take_append_drop]
    have b : ((tl x).drop j).count k ≤ ((tl x).drop i).count k := by
      have e : (tl x).drop j = ((tl x).drop i).drop (j - i) := by
        rw [List.drop_drop]
        congr 1
        omega
      rw [e]
      exact (List.drop_sublist _ _).count_le k
    omega
  have hl := h.len
  rw [len_tl] at hl
  refine ⟨?_, fun k m => ?_, ?_, ?_, ?_⟩
  · rw [len_tl, e, List.length_append, List.length_append, List.length_take, List.length_drop]
    omega
  · rw [e] at m
    rcases List.mem_append.mp m with m | m
    · exact h.asc k (i1.subset m)
    · rcases List.mem_append.mp m with m | m
      · exact ag k m
      · exact h.asc k (i2.subset m)
  · rw [e]
    exact ((h.run.sub i1).app ((NumRun.all g).app (h.run.sub i2))).mono (by omega)
  · rw [e, List.count_append, List.count_append]
    have a := cc 44
    have b := h.cms
    have c := List.count_le_length (a := 44) (l := g)
    omega
  · rw [e, List.count_append, List.count_append]
    have a := cc 10
    have b := h.nls
    have c := List.count_le_length (a := 10) (l := g)
    omega
/-- words up to a place, and words from a place on -/
theorem subw_take (k : Nat) (ws : List Str) : SubW (ws.take k) ws := by
  refine ⟨fun f => ?_, fun w m => List.mem_of_mem_take m⟩
  have a := sum_cut f k ws
  omega
theorem subw_dropT (k : Nat) (ws : List Str) : SubW (ws.drop k) ws := by
  refine ⟨fun f => ?_, fun w m => List.mem_of_mem_drop m⟩
  have a := sum_cut f k ws
  omega
/-- a word changed -/
theorem word_ok {x w : Str} {L R C M : Nat} (h : TxC L R C M x) (m : w ∈ Txt.split x " ") : TxC L R C M w := h.sub (cut_infix sp_tl (by decide) w m)
/-- a sign goes -/
theorem rep0_ok {L R C M : Nat} {x y : Str} (h : TxC L R C M x) (ly : y.length = 1) : TxC (L + 1) (2 * R + 1) (C + 1) (M + 1) (rep1 x y "") := by
  rcases rep1_tl x y "" with e | ⟨i, _, e⟩
  · rw [e]
    exact h.mono (by omega) (by omega) (by omega) (by omega)
  · refine ins_ok (i := i) (j := i + 1) (g := []) h ?_ (by omega) (Nat.zero_le _) (fun _ m => nomatch m)
    rw [e, ly]
    have z : tl ("" : Str) = [] := by decide +kernel
    rw [z, List.append_nil, List.nil_append]
/-- capital letters -/
theorem up_run {R : Nat} {xs : List Nat} (h : NumRun R xs) : NumRun R (xs.map up1) := by
  intro q s d
  obtain ⟨a, b, e⟩ := s
  have e2 : xs.map up1 = a ++ (q ++ b) := by rw [← e, List.append_assoc]
  obtain ⟨a', r', e3, ea, er⟩ := List.map_eq_append_iff.mp e2
  obtain ⟨q', b', e4, eq', eb⟩ := List.map_eq_append_iff.mp er
  have hq : ∀ c, dm (up1 c) → up1 c = c := fun c hc => by
    by_cases n : 97 ≤ c ∧ c ≤ 122
    · exfalso
      unfold up1 dm at hc
      rw [if_pos n] at hc
      omega
    · unfold up1
      rw [if_neg n]
  have dq : ∀ c ∈ q', dm c := fun c m => by
    have hc : dm (up1 c) := d _ (by rw [← eq']; exact List.mem_map_of_mem m)
    rw [hq c hc] at hc
    exact hc
  have l : q'.length = q.length := by rw [← eq', List.length_map]
  rw [← l]
  exact h q' ⟨a', b', by rw [e3, e4, List.append_assoc]⟩ dq
theorem up_cnt {k : Nat} (hk : k < 65) (xs : List Nat) : (xs.map up1).count k = xs.count k := by
  induction xs with
  | nil => rfl
  | cons c r ih =>
    rw [List.map_cons, List.count_cons, List.count_cons, ih]
    congr 1
    have z : (up1 c == k) = (c == k) := by
      rw [Bool.eq_iff_iff, beq_iff_eq, beq_iff_eq]
      unfold up1
      split
      · constructor <;> intro h <;> omega
      · exact Iff.rfl
    rw [z]
theorem tl_upper {x : Str} (h : ∀ c ∈ tl x, c < 128) : tl (Txt.upper x) = (tl x).map up1 := by
  rw [upper_ascii h]
  show (x.cps.map up1).toList = x.cps.toList.map up1
  exact Array.toList_map
theorem upper_ok {L R C M : Nat} {x : Str} (h : TxC L R C M x) : TxC L R C M (Txt.upper x) := by
  have e := tl_upper h.asc
  have lx := h.len
  rw [len_tl] at lx
  refine ⟨?_, fun c m => ?_, ?_, ?_, ?_⟩
  · rw [len_tl, e, List.length_map]
    exact lx
  · rw [e] at m
    obtain ⟨d, md, rfl⟩ := List.mem_map.mp m
    have hd := h.asc d md
    unfold up1
    split <;> omega
  · rw [e]
    exact up_run h.run
  · rw [e, up_cnt (by decide)]
    exact h.cms
  · rw [e, up_cnt (by decide)]
    exact h.nls
/-! tests behind which a token is out -/
section
variable {X : Cx} {a : Expr} {ta te : TE} {r : R2} {e : Expr} {k : Int} {j : Nat} {cp pos : Pos} {t u : TS} {b : List Stmt} {op : CmpOp} {st : Stmt}
def PT1 (X : Cx) (e : Expr) (t : TT) : Prop :=
  ∀ (pins : List (Addr × Obj)) (s : Shared) (σ : L2.St) (H : Hp) (Q : Bool → Hp → Prop), Inv X pins σ H s → t σ H Q → wpAny (model X.prog X.w) X.A (isTrue e X.env (eval e X.env)) (fun d s' => 1 ≤ s'.toks ∧ TP X pins σ Q d s') X.xe s
theorem pt_cmp1 (ho : OpR X (compareOp op) r) (ha : PE X a ta) (hm : behindInMarks op (.Constant (.int k) j cp) = false) : PT1 X (.Compare a [op] [.Constant (.int k) j cp] pos) (tTest (tOp r ta (tC (.int k)))) := by
  intro pins s σ H Q I h
  refine wpAny_isTrue_Compare1 (thn (ha.run pins s σ H _ I h) fun v s1 ⟨x, H1, I1, r1, q1⟩ => wpAny_Constant_int ?_) hm
  refine wpAny_mono (PySem.wpAny_toks (ho pins _ σ H1 x (.int k) v (.int k s1.toks) _ (I1.tok (s1.toks + 1)) r1 ⟨_, rfl⟩ q1)) (fun c s3 q => ?_) fun _ _ z => z.2
  obtain ⟨hk, z, H3, I3, r3, d, ez, q3⟩ := q
  subst ez
  cases r3
  have hk : s1.toks + 1 ≤ s3.toks := hk
  exact wpAny_truthy_bool ⟨by omega, H3, I3, q3⟩
theorem ps_ifT {c : Expr} {tc : TT} {a : List Stmt} (hc : PT1 X c tc) (ha : PSsT X a t) (hb : PSs X b u) : PS X (.If c a b pos) (tIfS tc t u) := by
  refine ⟨fun pins s σ H D I h => ?_⟩
  refine wpAny_If (thn (hc pins s σ H _ I h) fun d s1 ⟨h1, H1, I1, q1⟩ => ?_)
  cases d with
  | true => exact ha pins s1 σ H1 D h1 I1 q1
  | false => exact hb.run pins s1 σ H1 D I1 q1
theorem pst_ret (he : PET X e te) : PST X (.Return (some e) pos) (tRet te) := by
  intro pins s σ H D h0 I h
  exact wpAny_Return_some (thn (he pins s σ H _ h0 I h) fun v s1 ⟨x, H1, I1, r1, q1⟩ => ⟨x, σ, H1, I1, r1, q1⟩)
theorem psst_one (h : PST X st t) : PSsT X [st] t := by
  intro pins s σ H D h0 I q
  refine wpAny_execs_cons (thn (h pins s σ H D h0 I q) fun f s1 q1 => ?_)
  cases f with
  | next =>
    obtain ⟨σ', H', I', q⟩ := q1
    exact wpAny_execs_nil ⟨σ', H', I', q⟩
  | ret v => exact q1
  | brk => exact q1
  | cont => exact q1
end
end Vm
/-! the law: a text with one change -/
namespace Vm
open PySem PySem.Spec PyProof.Rows L2 TL
abbrev sBent : Stmt := top 72
def bnA : List Str := ["from", "as", "where", "without", "keep", "or", "first", "by", "falling", "group", "least", "greatest"]
def bnB : List Str := ["having", "count", "a", "u.p", "u.", ".p", "u.p.q", "U.p", "=", "<", "==", "<=", "0", "-0", "01"]
def bnC : List Str := ["7", "", ",", "a,", "u.p,", "abcdefghi", "-7", "1.5", "+1", Txt.mul "9" 50, "x_y"]
theorem bn_ok : ∀ x ∈ bnA ++ bnB ++ bnC, TxC 50 50 1 0 x := by
  have h : (bnA ++ bnB ++ bnC).all (txB 50 50 1 0) = true := by decide +kernel
  exact fun x m => txB_ok (List.all_eq_true.mp h x m)
theorem mul9 : MulOk "9" 50 := ⟨by decide +kernel, fun _ _ => by decide +kernel, fun _ _ => by decide +kernel⟩
def signsW : Str := " ,.=<aZ0\n-"
theorem signs_ok : ∀ c ∈ signsW.cps.toList, c < 128 := by
  have h : signsW.cps.toList.all (fun c => decide (c < 128)) = true := by decide +kernel
  exact fun c m => of_decide_eq_true (List.all_eq_true.mp h c m)
def spBent : Sp := fun vs H Q _ => ∃ (s l : Addr) (x : Str) (ms : List Int) (z b : Int) (L R C M : Nat), vs = [.ref s, .str x] ∧ Src H s l ms z b ∧ 0 ≤ b ∧ b < 700000 ∧ TxC L R C M x ∧ L ≤ 8000 ∧
  ∀ (H' : Hp) (ms' : List Int) (b' : Int) (y : Str), But s l H H' → Src H' s l ms' z b' → b ≤ b' → b' ≤ b + 10 → TxC (2 * L + 60) (max (2 * R + 1) 50) (2 * C + 2) (2 * M + 2) y → Q (.str y) H'
def anyV : Option V → Option V → Prop := fun _ _ => True
def sgV : Option V → Option V → Prop := fun v7 v8 => ∃ (i c : Nat), v7 = some (.int (i : Int)) ∧ v8 = some (.str ⟨#[c]⟩) ∧ c < 128
/-- where the ways part -/
def gB (K : PySem.W.Frag) (H : Hp) (Q : VK) (a l : Addr) (x : Str) (ws : List Str) (z b mx : Int) (W : Option V → Option V → Prop) : TS := fun D σ H6 => D.rt = Q ∧ ∃ (p q : Addr) (ms6 : List Int) (b6 r : Int) (j t : Nat) (v7 v8 : Option V),
  σ = [some (.ref a), some (.str x), some (.ref p), some (.int r), some (.int (j : Int)), some (.int (t : Int)), some (.ref q), v7, v8] ∧ j < ws.length ∧ t < ws.length ∧ H6 p = some (.lst (ws.map V.str)) ∧ H6 q = some (.lst ((bnA ++ bnB ++ bnC).map V.str)) ∧ Off a l p ∧ Off a l q ∧
  But a l H H6 ∧ Src H6 a l ms6 z b6 ∧ b + 3 ≤ b6 ∧ b6 ≤ b + mx ∧ W v7 v8
section
variable {P : Program} {w : World} {K : PySem.W.Frag} {mg : Str → Option Value} {base : Heap} {fD fP : Addr}
theorem scBent : FnScope ["_law_source_here", "_law_it", "_law_words", "_law_way", "_law_at", "_law_to", "_law_some", "_law_spot", "_law_sign"] ["_law_source_here", "_law_it"] (defScope sBent) := ⟨rfl, rfl, rfl, by decide +kernel, rfl, by decide +kernel, by decide +kernel⟩
theorem ok_bent {f : Addr} {fd fdD fdP : FuncData} (F : Fun K "_law_bent" "_law_bent" sBent f fd) (T : TxtL K mg fD fP) (int : mg "int" = none)
    (GD : FnOk P w K mg base CX0 1 fD fdD ["_law_source_here", "_law_many"] spDraw) (bD : Binds K fdD ["_law_source_here", "_law_many"] [])
    (GP : FnOk P w K mg base CX0 2 fP fdP ["_law_source_here", "_law_items"] (spPick K)) (bP : Binds K fdP ["_law_source_here", "_law_items"] []) :
    FnOk P w K mg base CX0 4 f fd ["_law_source_here", "_law_it"] spBent := by
  refine F.ok scBent (fun vs H Q E h => ?_) (fun cdv A outer s H vs Q E hr h => ?_)
  · obtain ⟨s, l, x, ms, z, b, L, R, C, M, rfl, _⟩ := h
    rfl
  · obtain ⟨a, l, x, ms, z, b, L, R, C, M, rfl, hs, b0, b1, tx, lL, k⟩ := h
    have hr1 : Room 1 _ := hr.mono (by decide)
    have hr2 : Room 2 _ := hr.mono (by decide)
    have big : sizeLine > 100000 := by decide
    have lx := tx.len
    have wx := tx.split sep_sp
    have lw := cut_count (x := x) sp_tl (by decide)
    have cw := List.count_le_length (a := 32) (l := tl x)
    have lnl := fun li (m : li ∈ Txt.split x " ") => word_ok tx m
    rw [← len_tl] at cw
    have k0 : But a l H H := fun _ _ _ _ e => e
    obtain ⟨ws, hws⟩ : ∃ ws, Txt.split x " " = ws := ⟨_, rfl⟩
    rw [hws] at wx lw lnl
    have wl : ws.length ≤ 8001 := by omega
    have w0 : 0 < ws.length := by omega
    have eT : ∀ j : Nat, cutV (ws.map V.str) none (some (j : Int)) = (ws.take j).map V.str := fun j => by rw [cut_take, List.map_take]
    have eT1 : ∀ j : Nat, cutV (ws.map V.str) none (some ((j : Int) + 1)) = (ws.take (j + 1)).map V.str := fun j => by
      rw [List.map_take, ← cut_take]
      rfl
    have eD0 : ∀ j : Nat, cutV (ws.map V.str) (some (j : Int)) none = (ws.drop j).map V.str := fun j => by rw [cut_drop, List.map_drop]
    have eD1 : ∀ j : Nat, cutV (ws.map V.str) (some ((j : Int) + 1)) none = (ws.drop (j + 1)).map V.str := fun j => by
      rw [List.map_drop]
      exact cut_dropI (ws.map V.str) j 1
    have eD2 : ∀ j : Nat, cutV (ws.map V.str) (some ((j : Int) + 2)) none = (ws.drop (j + 2)).map V.str := fun j => by
      rw [List.map_drop]
      exact cut_dropI (ws.map V.str) j 2
    have eM : ∀ {j : Nat}, j < ws.length → cutV (ws.map V.str) (some (j : Int)) (some ((j : Int) + 2)) = ((ws.drop j).take 2).map V.str := fun {j} jl => by
      rw [List.map_take, List.map_drop]
      exact cut_midI (ws.map V.str) j 2 (by rw [List.length_map]; omega)
    have lt : ∀ i, (ws.take i).length ≤ 8001 := fun i => by rw [List.length_take]; omega
    have ld : ∀ i, (ws.drop i).length ≤ 8001 := fun i => by rw [List.length_drop]; omega
    have fin : ∀ (us : List Str) (c : Addr) (G : Hp) (ms' : List Int) (b' : Int), WsC " " (2 * L + 60) (max (2 * R + 1) 50) (2 * C + 2) (2 * M + 2) us → But a l H G → Src G a l ms' z b' → b + 2 ≤ b' → b' ≤ b + 10 → G c = some (.lst (us.map V.str)) →
        ∃ (a' : Str) (p' : Addr), ∃ ys : List Str, V.str " " = .str a' ∧ [V.ref c] = [.ref p'] ∧ (SqL K G p' (ys.map V.str) ∨ SqT K G p' (ys.map V.str)) ∧ (ys.map (·.length)).sum + ys.length * a'.length ≤ 16777216 ∧ Q (.str (Txt.join a' ys)) G :=
      fun us c G ms' b' w kk hh c1 c2 e => ⟨" ", c, us, rfl, rfl, .inl (SqL.of e), w.fits (by rw [sp_len]; omega), k G ms' b' _ kk hh (by omega) (by omega) (w.join sep_sp)⟩
    have len3 : ∀ (x y : List Str), x.length ≤ 18003 → y.length ≤ 18003 → (x.map V.str).length + (y.map V.str).length ≤ sizeLine := fun x y h1 h2 => by
      rw [List.length_map, List.length_map]
      omega
    have lR := Nat.le_max_left (2 * R + 1) 50
    have lR2 := Nat.le_max_right (2 * R + 1) 50
    refine ⟨_, pss_cons (ps_par (i := 2) (j := 3) rfl scBent.nd rfl rfl (by decide) rfl rfl (pa_cons (pe_split (pv 1) pe_str) (pa_cons (pe_call GD hr1 rfl T.gD T.kD bD .nil pass0 (pa_cons (pv 0) (pa_cons pe_int pa_nil))) pa_nil)) rfl)
      (pss_cons (ps_par (i := 4) (j := 5) rfl scBent.nd rfl rfl (by decide) rfl rfl (pa_cons (pe_call GD hr1 rfl T.gD T.kD bD .nil pass0 (pa_cons (pv 0) (pa_cons (pe_callB call_len_seq (by rfl) T.len (by decide +kernel) (pa_cons (pv 2) pa_nil)) pa_nil)))
          (pa_cons (pe_call GD hr1 rfl T.gD T.kD bD .nil pass0 (pa_cons (pv 0) (pa_cons (pe_callB call_len_seq (by rfl) T.len (by decide +kernel) (pa_cons (pv 2) pa_nil)) pa_nil))) pa_nil)) rfl)
      (pss_cons (ps_set (i := 6) scBent.nd rfl (Or.inl rfl) (pe_lst (pa_cons pe_str (pa_cons pe_str (pa_cons pe_str (pa_cons pe_str (pa_cons pe_str (pa_cons pe_str (pa_cons pe_str (pa_cons pe_str (pa_cons pe_str (pa_cons pe_str (pa_cons pe_str (pa_cons pe_str pa_nil))))))))))))))
      (pss_cons (ps_set (i := 6) scBent.nd rfl (Or.inl rfl) (pe_op op_cat (pv 6) (pe_lst (pa_cons pe_str (pa_cons pe_str (pa_cons pe_str (pa_cons pe_str (pa_cons pe_str (pa_cons pe_str (pa_cons pe_str (pa_cons pe_str (pa_cons pe_str (pa_cons pe_str (pa_cons pe_str (pa_cons pe_str (pa_cons pe_str (pa_cons pe_str (pa_cons pe_str pa_nil))))))))))))))))))
      (pss_cons (ps_set (i := 6) scBent.nd rfl (Or.inl rfl) (pe_op op_cat (pv 6) (pe_lst (pa_cons pe_str (pa_cons pe_str (pa_cons pe_str (pa_cons pe_str (pa_cons pe_str (pa_cons pe_str (pa_cons pe_str (pa_cons pe_str (pa_cons pe_str (pa_cons (pe_op op_mulS pe_str pe_int) (pa_cons pe_str pa_nil))))))))))))))
      (pss_imp (G := gB K H Q a l x ws z b 5 anyV) (pss_cons (ps_if (pt_cmpR op_lt (pv 3) pe_int (nomark _)) (pss_imp (G := gB K H Q a l x ws z b 5 anyV) (pss_one (ps_ret (pe_join pe_str (pe_op op_cat (pe_op op_cat (pe_slice sl_list (pv 2) po_none (po_some (pv 4))) (pe_lst (pa_cons (pe_call GP hr2 rfl T.gP T.kP bP .nil pass0 (pa_cons (pv 0) (pa_cons (pv 6) pa_nil))) pa_nil))) (pe_slice sl_list (pv 2) (po_some (pe_op op_add (pv 4) (pe_callTy call_int1 (by rfl) int (by decide +kernel) (pa_cons (pe_cmpR op_gt (pv 3) pe_int (nomark _)) pa_nil)))) po_none))))) (fun D0 σ0 G0 g => ?_)) pss_nil)
      (pss_cons (ps_if (pt_cmpR op_eq (pv 3) pe_int (nomark _)) (pss_imp (G := gB K H Q a l x ws z b 5 anyV) (pss_one (ps_ret (pe_join pe_str (pe_op op_cat (pe_slice sl_list (pv 2) po_none (po_some (pv 4))) (pe_slice sl_list (pv 2) (po_some (pe_op op_add (pv 4) pe_int)) po_none))))) (fun D0 σ0 G0 g => ?_)) pss_nil)
      (pss_cons (ps_if (pt_cmpR op_eq (pv 3) pe_int (nomark _)) (pss_imp (G := gB K H Q a l x ws z b 5 anyV) (pss_one (ps_ret (pe_join pe_str (pe_op op_cat (pe_op op_cat (pe_slice sl_list (pv 2) po_none (po_some (pv 4))) (pe_revL (pe_slice sl_list (pv 2) (po_some (pv 4)) (po_some (pe_op op_add (pv 4) pe_int))))) (pe_slice sl_list (pv 2) (po_some (pe_op op_add (pv 4) pe_int)) po_none))))) (fun D0 σ0 G0 g => ?_)) pss_nil)
      (pss_cons (ps_if (pt_cmpR op_eq (pv 3) pe_int (nomark _)) (pss_imp (G := gB K H Q a l x ws z b 5 anyV) (pss_one (ps_ret (pe_join pe_str (pe_op op_cat (pe_slice sl_list (pv 2) po_none (po_some (pe_op op_add (pv 4) pe_int))) (pe_slice sl_list (pv 2) (po_some (pv 5)) po_none))))) (fun D0 σ0 G0 g => ?_)) pss_nil)
      (pss_cons (ps_if (pt_cmpR op_eq (pv 3) pe_int (nomark _)) (pss_imp (G := gB K H Q a l x ws z b 5 anyV) (pss_one (ps_ret (pe_join pe_str (pe_op op_cat (pe_op op_cat (pe_slice sl_list (pv 2) po_none (po_some (pv 4))) (pe_lst (pa_cons (pe_op op_add_str (pe_ix ix_list (pv 2) (pv 4) (fun _ _ => rfl)) pe_str) pa_nil))) (pe_slice sl_list (pv 2) (po_some (pe_op op_add (pv 4) pe_int)) po_none))))) (fun D0 σ0 G0 g => ?_)) pss_nil)
      (pss_cons (ps_ifT (pt_cmp1 op_eq (pv 3) (nomark _)) (psst_one (pst_ret (pet_repl1 (pv 1)))) pss_nil)
      (pss_cons (ps_par (i := 7) (j := 8) rfl scBent.nd rfl rfl (by decide) rfl rfl (pa_cons (pe_call GD hr1 rfl T.gD T.kD bD .nil pass0 (pa_cons (pv 0) (pa_cons (pe_op op_add (pe_callB call_len_str (by rfl) T.len (by decide +kernel) (pa_cons (pv 1) pa_nil)) pe_int) pa_nil)))
          (pa_cons (pe_call GP hr2 rfl T.gP T.kP bP .nil pass0 (pa_cons (pv 0) (pa_cons pe_str pa_nil))) pa_nil)) rfl)
      (pss_cons (ps_if (pt_cmpR op_eq (pv 3) pe_int (nomark _)) (pss_imp (G := gB K H Q a l x ws z b 7 sgV) (pss_one (ps_ret (pe_op op_add_str (pe_op op_add_str (pe_slice sl_str (pv 1) po_none (po_some (pv 7))) (pv 8)) (pe_slice sl_str (pv 1) (po_some (pe_op op_add (pv 7) (pe_call GD hr1 rfl T.gD T.kD bD .nil pass0 (pa_cons (pv 0) (pa_cons pe_int pa_nil))))) po_none)))) (fun D0 σ0 G0 g => ?_)) pss_nil)
      (pss_cons (ps_if (pt_cmpR op_eq (pv 3) pe_int (nomark _)) (pss_imp (G := gB K H Q a l x ws z b 7 anyV) (pss_one (ps_ret (pe_join pe_str (pe_slice sl_list (pv 2) po_none (po_some (pv 4)))))) (fun D0 σ0 G0 g => ?_)) pss_nil)
      (pss_imp (G := gB K H Q a l x ws z b 7 anyV) (pss_one (ps_ret (pe_call GP hr2 rfl T.gP T.kP bP .nil pass0 (pa_cons (pv 0) (pa_cons (pe_lst (pa_cons (pe_op op_add_str (pv 1) pe_str) (pa_cons (pe_op op_add_str pe_str (pv 1)) (pa_cons (pe_op op_add_str (pv 1) pe_str) (pa_cons (pe_op op_add_str (pe_op op_add_str (pv 1) pe_str) (pv 1))
          (pa_cons (pe_upper (pv 1)) pa_nil)))))) pa_nil))))) (fun D0 σ0 G0 g => ?_))))))))))) (fun D0 σ0 G0 g => ?_)))))), ?_⟩
    · -- another word, or one more
      obtain ⟨eD, p, q, ms6, b6, r, j, t, v7, v8, rfl, jl, tl', ep6, eq6, fp, fq, k6, hs6, d1, d2, wv⟩ := g
      subst eD
      refine ⟨⟨_, rfl⟩, _, rfl, _, rfl, _, rfl, p, _, rfl, SqL.of ep6, fun c1 hc1 => ?_⟩
      rw [eT]
      have s1 := same_upd (o := .lst ((ws.take j).map V.str)) hc1
      have f1 := hs6.free hc1
      refine ⟨_, rfl, _, rfl, a, l, .ref q, ms6, z, _, rfl, hs6.but s1, by omega, by omega, .inl ⟨q, _, rfl, fun H' kk => SqL.of (kk _ _ fq.1 fq.2 (s1 _ _ eq6)), by decide, by decide, fun G ms7 v kk hs7 hv => ?_⟩⟩
      obtain ⟨y, my, rfl⟩ := List.mem_map.mp hv
      refine ⟨by show 1 ≤ sizeLine; omega, fun c2 hc2 => ?_⟩
      have s2 := same_upd (o := .lst ([y].map V.str)) hc2
      have e1 := s2 _ _ (kk _ _ f1.1 f1.2 upd_same)
      refine ⟨c1, c2, (ws.take j).map V.str, [y].map V.str, rfl, rfl, e1, upd_same, len3 _ _ (Nat.le_trans (lt _) (by decide)) (by show 1 ≤ 18003; decide), fun c3 hc3 => ?_⟩
      rw [← List.map_append]
      have s3 := same_upd (o := .lst ((ws.take j ++ [y]).map V.str)) hc3
      have s23 := s2.trans s3
      have epG := s23 _ _ (kk _ _ fp.1 fp.2 (s1 _ _ ep6))
      refine ⟨_, rfl, _, rfl, _, rfl, _, _, rfl, rfl, .inr ⟨_, rfl, ?_⟩⟩
      obtain ⟨i, hi, ei⟩ : ∃ i : Nat, i ≤ 1 ∧ ((j : Int) + (if decide (0 < r) = true then 1 else 0)) = (j : Int) + (i : Int) := by
        by_cases h : decide (0 < r) = true
        · exact ⟨1, by decide, by rw [if_pos h]; rfl⟩
        · exact ⟨0, by decide, by rw [if_neg h]; rfl⟩
      refine ⟨_, _, rfl, rfl, _, rfl, p, _, rfl, SqL.of epG, fun c4 hc4 => ?_⟩
      rw [ei, cut_dropI (ws.map V.str) j i, ← List.map_drop]
      have s4 := same_upd (o := .lst ((ws.drop (j + i)).map V.str)) hc4
      refine ⟨c3, c4, _, _, rfl, rfl, s4 _ _ upd_same, upd_same, len3 _ _ (by rw [List.length_append]; have := lt j; show (ws.take j).length + 1 ≤ 18003; omega) (Nat.le_trans (ld _) (by decide)), fun c5 hc5 => ?_⟩
      rw [← List.map_append]
      have s5 := same_upd (o := .lst ((ws.take j ++ [y] ++ ws.drop (j + i)).map V.str)) hc5
      have s25 := (s23.trans s4).trans s5
      have w := (wx.cons (bn_ok y my)).sub (subw_put j i y ws)
      rw [sp_len, sp_44, sp_10] at w
      exact fin _ c5 _ ms7 _ (w.mono (by omega) (by omega) (by omega) (by omega)) ((k6.trans (But.of_same s1)).trans (kk.trans (But.of_same s25))) (hs7.but s25) (by omega) (by omega) upd_same
    · -- a word goes
      obtain ⟨eD, p, q, ms6, b6, r, j, t, v7, v8, rfl, jl, tl', ep6, eq6, fp, fq, k6, hs6, d1, d2, wv⟩ := g
      subst eD
      refine ⟨⟨_, rfl⟩, _, rfl, _, rfl, _, rfl, p, _, rfl, SqL.of ep6, fun c1 hc1 => ?_⟩
      rw [eT]
      have s1 := same_upd (o := .lst ((ws.take j).map V.str)) hc1
      refine ⟨_, rfl, _, rfl, _, _, rfl, rfl, _, rfl, p, _, rfl, SqL.of (s1 _ _ ep6), fun c2 hc2 => ?_⟩
      rw [eD1 j]
      have s2 := same_upd (o := .lst ((ws.drop (j + 1)).map V.str)) hc2
      refine ⟨c1, c2, _, _, rfl, rfl, s2 _ _ upd_same, upd_same, len3 _ _ (Nat.le_trans (lt _) (by decide)) (Nat.le_trans (ld _) (by decide)), fun c3 hc3 => ?_⟩
      rw [← List.map_append]
      have s3 := same_upd (o := .lst ((ws.take j ++ ws.drop (j + 1)).map V.str)) hc3
      have s13 := (s1.trans s2).trans s3
      exact fin _ c3 _ ms6 _ ((wx.sub (subw_drop j ws)).mono (by omega) (by omega) (by omega) (by omega)) (k6.trans (But.of_same s13)) (hs6.but s13) (by omega) (by omega) upd_same
    · -- two turned round
      obtain ⟨eD, p, q, ms6, b6, r, j, t, v7, v8, rfl, jl, tl', ep6, eq6, fp, fq, k6, hs6, d1, d2, wv⟩ := g
      subst eD
      refine ⟨⟨_, rfl⟩, _, rfl, _, rfl, _, rfl, p, _, rfl, SqL.of ep6, fun c1 hc1 => ?_⟩
      rw [eT]
      have s1 := same_upd (o := .lst ((ws.take j).map V.str)) hc1
      refine ⟨_, rfl, _, rfl, _, rfl, _, rfl, _, _, rfl, rfl, _, rfl, p, _, rfl, SqL.of (s1 _ _ ep6), fun c2 hc2 => ?_⟩
      rw [eM jl]
      have s2 := same_upd (o := .lst (((ws.drop j).take 2).map V.str)) hc2
      refine ⟨c2, _, rfl, SqL.of upd_same, fun c3 hc3 => ?_⟩
      rw [← List.map_reverse]
      have s3 := same_upd (o := .lst (((ws.drop j).take 2).reverse.map V.str)) hc3
      refine ⟨c1, c3, _, _, rfl, rfl, s3 _ _ (s2 _ _ upd_same), upd_same, len3 _ _ (Nat.le_trans (lt _) (by decide)) (by rw [List.length_reverse, List.length_take]; omega), fun c4 hc4 => ?_⟩
      rw [← List.map_append]
      have s4 := same_upd (o := .lst ((ws.take j ++ ((ws.drop j).take 2).reverse).map V.str)) hc4
      have s14 := ((s1.trans s2).trans s3).trans s4
      refine ⟨_, rfl, _, rfl, _, _, rfl, rfl, _, rfl, p, _, rfl, SqL.of (s14 _ _ ep6), fun c5 hc5 => ?_⟩
      rw [eD2 j]
      have s5 := same_upd (o := .lst ((ws.drop (j + 2)).map V.str)) hc5
      refine ⟨c4, c5, _, _, rfl, rfl, s5 _ _ upd_same, upd_same, len3 _ _ (by rw [List.length_append, List.length_reverse, List.length_take, List.length_take]; omega) (Nat.le_trans (ld _) (by decide)), fun c6 hc6 => ?_⟩
      rw [← List.map_append]
      have s6 := same_upd (o := .lst ((ws.take j ++ ((ws.drop j).take 2).reverse ++ ws.drop (j + 2)).map V.str)) hc6
      have s16 := (s14.trans s5).trans s6
      exact fin _ c6 _ ms6 _ ((wx.sub (subw_turn j 2 ws)).mono (by omega) (by omega) (by omega) (by omega)) (k6.trans (But.of_same s16)) (hs6.but s16) (by omega) (by omega) upd_same
    · -- a part again, or left out
      obtain ⟨eD, p, q, ms6, b6, r, j, t, v7, v8, rfl, jl, tl', ep6, eq6, fp, fq, k6, hs6, d1, d2, wv⟩ := g
      subst eD
      refine ⟨⟨_, rfl⟩, _, rfl, _, rfl, _, _, rfl, rfl, _, rfl, p, _, rfl, SqL.of ep6, fun c1 hc1 => ?_⟩
      rw [eT1 j]
      have s1 := same_upd (o := .lst ((ws.take (j + 1)).map V.str)) hc1
      refine ⟨_, rfl, _, rfl, _, rfl, p, _, rfl, SqL.of (s1 _ _ ep6), fun c2 hc2 => ?_⟩
      rw [eD0]
      have s2 := same_upd (o := .lst ((ws.drop t).map V.str)) hc2
      refine ⟨c1, c2, _, _, rfl, rfl, s2 _ _ upd_same, upd_same, len3 _ _ (Nat.le_trans (lt _) (by decide)) (Nat.le_trans (ld _) (by decide)), fun c3 hc3 => ?_⟩
      rw [← List.map_append]
      have s3 := same_upd (o := .lst ((ws.take (j + 1) ++ ws.drop t).map V.str)) hc3
      have s13 := (s1.trans s2).trans s3
      have w := (wx.sub (subw_take (j + 1) ws)).append (wx.sub (subw_dropT t ws))
      rw [sp_len, sp_44, sp_10, Nat.max_self] at w
      exact fin _ c3 _ ms6 _ (w.mono (by omega) (by omega) (by omega) (by omega)) (k6.trans (But.of_same s13)) (hs6.but s13) (by omega) (by omega) upd_same
    · -- a comma more
      obtain ⟨eD, p, q, ms6, b6, r, j, t, v7, v8, rfl, jl, tl', ep6, eq6, fp, fq, k6, hs6, d1, d2, wv⟩ := g
      subst eD
      obtain ⟨line, eline⟩ : ∃ line, ws[j]? = some line := ⟨_, List.getElem?_eq_getElem jl⟩
      have mline := List.mem_of_getElem? eline
      have tline := lnl line mline
      have atj : atI (ws.map V.str) (j : Int) = some (.str line) := atI_nat (by rw [List.getElem?_map, eline]; rfl)
      refine ⟨⟨_, rfl⟩, _, rfl, _, rfl, _, rfl, p, _, rfl, SqL.of ep6, fun c1 hc1 => ?_⟩
      rw [eT]
      have s1 := same_upd (o := .lst ((ws.take j).map V.str)) hc1
      have tc : TxC 1 0 1 0 "," := txB_ok (by decide +kernel)
      have ly := tline.len
      have lc := tc.len
      refine ⟨_, rfl, _, rfl, p, _, (j : Int), _, rfl, rfl, SqL.of (s1 _ _ ep6), atj, _, _, rfl, rfl, by omega, ?_⟩
      have ty := tline.app tc
      generalize line ++ "," = y at ty ⊢
      refine ⟨by show 1 ≤ sizeLine; omega, fun c2 hc2 => ?_⟩
      have s2 := same_upd (o := .lst ([y].map V.str)) hc2
      refine ⟨c1, c2, (ws.take j).map V.str, [y].map V.str, rfl, rfl, s2 _ _ upd_same, upd_same, len3 _ _ (Nat.le_trans (lt _) (by decide)) (by show 1 ≤ 18003; decide), fun c3 hc3 => ?_⟩
      rw [← List.map_append]
      have s3 := same_upd (o := .lst ((ws.take j ++ [y]).map V.str)) hc3
      have s13 := (s1.trans s2).trans s3
      refine ⟨_, rfl, _, rfl, _, _, rfl, rfl, _, rfl, p, _, rfl, SqL.of (s13 _ _ ep6), fun c4 hc4 => ?_⟩
      rw [eD1 j]
      have s4 := same_upd (o := .lst ((ws.drop (j + 1)).map V.str)) hc4
      refine ⟨c3, c4, _, _, rfl, rfl, s4 _ _ upd_same, upd_same, len3 _ _ (by rw [List.length_append]; have := lt j; show (ws.take j).length + 1 ≤ 18003; omega) (Nat.le_trans (ld _) (by decide)), fun c5 hc5 => ?_⟩
      rw [← List.map_append]
      have s5 := same_upd (o := .lst ((ws.take j ++ [y] ++ ws.drop (j + 1)).map V.str)) hc5
      have s15 := (s13.trans s4).trans s5
      have w := (wx.cons ty).sub (subw_put j 1 y ws)
      rw [sp_len, sp_44, sp_10] at w
      exact fin _ c5 _ ms6 _ (w.mono (by omega) (by omega) (by omega) (by omega)) (k6.trans (But.of_same s15)) (hs6.but s15) (by omega) (by omega) upd_same
    · -- a sign
      obtain ⟨eD, p, q, ms8, b8, r, j, t, v7, v8, rfl, jl, tl', ep8, eq8, fp, fq, k78, hs8, d1, d2, wv⟩ := g
      subst eD
      obtain ⟨i, c, rfl, rfl, ac⟩ := wv
      have tc : tl (⟨#[c]⟩ : Str) = [c] := rfl
      have lc : (⟨#[c]⟩ : Str).length = 1 := rfl
      have z1 : ∀ {lo hi}, (cutS x lo hi).length ≤ 8000 := fun {lo hi} => Nat.le_trans (cutS_length x lo hi) (by omega)
      have ap : ∀ u v : Str, (u ++ v).length = u.length + v.length := fun u v => by rw [len_tl, tl_append, List.length_append, ← len_tl, ← len_tl]
      have a1 : (cutS x none (some (i : Int))).length ≤ 8000 := z1
      have b1' := ap (cutS x none (some (i : Int))) ⟨#[c]⟩
      have s1l : (cutS x none (some (i : Int))).length + (⟨#[c]⟩ : Str).length ≤ sizeLine := by rw [lc]; omega
      refine ⟨_, rfl, _, rfl, _, rfl, x, rfl, by omega, _, rfl, _, _, rfl, rfl, s1l, _, rfl, _, rfl, _, rfl, a, l, ms8, z, _, 2, rfl, hs8, by decide, by decide, by omega, by omega, fun G3 ms9 rd k9 hs9 rd0 rd1 => ?_⟩
      obtain ⟨d, rfl⟩ : ∃ d : Nat, rd = (d : Int) := ⟨rd.toNat, by omega⟩
      have i1 : (i : Int) + (d : Int) = ((i + d : Nat) : Int) := by omega
      have a2 : (cutS x (some ((i : Int) + (d : Int))) none).length ≤ 8000 := z1
      refine ⟨_, _, rfl, rfl, _, rfl, x, rfl, by omega, _, _, rfl, rfl, by rw [b1', lc]; omega, ?_⟩
      have t1 : TxC (L + 1) (2 * R + 1) (C + 1) (M + 1) (cutS x none (some (i : Int)) ++ ⟨#[c]⟩ ++ cutS x (some ((i : Int) + (d : Int))) none) := ins_ok (i := i) (j := i + d) (g := [c]) tx (by rw [i1, tl_append, tl_append, tl_cutT, tl_cutD, List.append_assoc, tc]) (by omega) (Nat.le_refl 1) (fun k m => by rw [List.mem_singleton.mp m]; exact ac)
      exact k G3 ms9 _ _ (k78.trans k9) hs9 (by omega) (by omega) (t1.mono (by omega) (by omega) (by omega) (by omega))
    · -- cut off
      obtain ⟨eD, p, q, ms8, b8, r, j, t, v7, v8, rfl, jl, tl', ep8, eq8, fp, fq, k78, hs8, d1, d2, wv⟩ := g
      subst eD
      refine ⟨⟨_, rfl⟩, _, rfl, _, rfl, _, rfl, p, _, rfl, SqL.of ep8, fun c1 hc1 => ?_⟩
      rw [eT]
      have s1 := same_upd (o := .lst ((ws.take j).map V.str)) hc1
      exact fin _ c1 _ ms8 _ ((wx.sub (subw_take j ws)).mono (by omega) (by omega) (by omega) (by omega)) (k78.trans (But.of_same s1)) (hs8.but s1) (by omega) (by omega) upd_same
    · -- blanks, a line feed, two in a row, capitals
      obtain ⟨eD, p, q, ms8, b8, r, j, t, v7, v8, rfl, jl, tl', ep8, eq8, fp, fq, k78, hs8, d1, d2, wv⟩ := g
      subst eD
      have tn : TxC 1 0 0 1 ("\n" : Str) := txB_ok (by decide +kernel)
      have ts : TxC 1 0 0 1 (" " : Str) := txB_ok (by decide +kernel)
      have tor : TxC 4 0 0 0 (" or " : Str) := txB_ok (by decide +kernel)
      have eo : tl (" or " : Str) = 32 :: [111, 114, 32] := by decide +kernel
      have ln := tn.len
      have ls := ts.len
      have lo := tor.len
      have lxo := (tx.app tor).len
      refine ⟨_, rfl, _, rfl, _, _, rfl, rfl, by omega, _, rfl, _, _, rfl, rfl, by omega, _, rfl, _, _, rfl, rfl, by omega, _, rfl, _, _, rfl, rfl, by omega, _, rfl, _, _, rfl, rfl, by omega, _, rfl, ⟨_, rfl⟩, x, rfl, rfl, by omega, by show 5 ≤ sizeLine; omega, fun q9 hq9 => pick_of (E := E0) hs8 (by omega) (by omega) hq9 (by show 0 < 5; decide) (by show 5 ≤ 1000; decide) fun G9 ms9 v k9 hs9 hv => ?_⟩
      obtain ⟨y, my, rfl⟩ := str_mem (xs := [x ++ " ", " " ++ x, x ++ "\n", x ++ " or " ++ x, Txt.upper x]) hv
      have txo : TxC (L + L + 4) R (C + C) (M + M) (x ++ " or " ++ x) := by
        have e : x ++ " or " ++ x = x ++ (" or " ++ x) := assocS _ _ _
        rw [e]
        have t := tx.appS ((tor.app tx).mono (Nat.le_refl _) (R' := R) (by omega) (Nat.le_refl _) (Nat.le_refl _)) (.inr (hdS.app ⟨_, eo⟩))
        exact t.mono (by omega) (Nat.le_refl _) (by omega) (by omega)
      have ty : TxC (2 * L + 60) (max (2 * R + 1) 50) (2 * C + 2) (2 * M + 2) y := by
        rcases List.mem_cons.mp my with e | my
        · exact e ▸ (tx.app ts).mono (by omega) (by omega) (by omega) (by omega)
        rcases List.mem_cons.mp my with e | my
        · exact e ▸ (ts.app tx).mono (by omega) (by omega) (by omega) (by omega)
        rcases List.mem_cons.mp my with e | my
        · exact e ▸ (tx.app tn).mono (by omega) (by omega) (by omega) (by omega)
        rcases List.mem_cons.mp my with e | my
        · exact e ▸ txo.mono (by omega) (by omega) (by omega) (by omega)
        rcases List.mem_cons.mp my with e | my
        · exact e ▸ (upper_ok tx).mono (by omega) (by omega) (by omega) (by omega)
        · exact nomatch my
      exact k G9 ms9 _ y (k78.trans k9) hs9 (by omega) (by omega) ty
    · -- which way
      have gg := g
      obtain ⟨eD, p, q, ms6, b6, r, j, t, v7, v8, rfl, jl, tl', ep6, eq6, fp, fq, k6, hs6, d1, d2, wv⟩ := gg
      have b63 : b6 = b + 3 ∨ True := .inr trivial
      refine ⟨_, rfl, _, _, rfl, rfl, _, rfl, ite_ (fun _ => g) (fun _ => ?_)⟩
      refine ⟨_, rfl, rfl, _, rfl, ite_ (fun _ => g) (fun _ => ?_)⟩
      refine ⟨_, rfl, rfl, _, rfl, ite_ (fun _ => g) (fun _ => ?_)⟩
      refine ⟨_, rfl, rfl, _, rfl, ite_ (fun _ => g) (fun _ => ?_)⟩
      refine ⟨_, rfl, rfl, _, rfl, ite_ (fun _ => g) (fun _ => ?_)⟩
      refine ⟨_, rfl, rfl, _, rfl, ite_ (fun _ => ?_) (fun _ => ?_)⟩
      · subst eD
        have e0 : ("" : Str).length = 0 := by decide +kernel
        exact ⟨_, rfl, x, rfl, by rw [e0]; omega, k G0 ms6 _ _ k6 hs6 (by omega) (by omega) ((rep0_ok tx (by decide +kernel)).mono (by omega) (by omega) (by omega) (by omega))⟩
      refine ⟨_, rfl, _, rfl, x, rfl, by omega, _, _, rfl, rfl, a, l, ms6, z, b6, ((x.length : Nat) : Int) + 1, rfl, hs6, by omega, by omega, by omega, by omega, fun G ms7 rs k7 hs7 rs0 rs1 => ?_⟩
      obtain ⟨i, rfl⟩ : ∃ i : Nat, rs = (i : Int) := ⟨rs.toNat, by omega⟩
      refine ⟨_, rfl, a, l, _, ms7, z, b6 + 1, rfl, hs7, by omega, by omega, .inr ⟨signsW, rfl, by decide +kernel, by decide +kernel, fun G2 ms8 c k8 hs8 mc => ?_⟩⟩
      refine ⟨_, _, rfl, ?_⟩
      have k78 := k6.trans (k7.trans k8)
      have ep8 := k8 _ _ fp.1 fp.2 (k7 _ _ fp.1 fp.2 ep6)
      have eq8 := k8 _ _ fq.1 fq.2 (k7 _ _ fq.1 fq.2 eq6)
      refine ⟨_, rfl, rfl, _, rfl, ite_ (fun _ => ?_) (fun _ => ?_)⟩
      · exact ⟨eD, p, q, ms8, b6 + 1 + 1, r, j, t, _, _, rfl, jl, tl', ep8, eq8, fp, fq, k78, hs8, by omega, by omega, i, c, rfl, rfl, signs_ok c mc⟩
      refine ⟨_, rfl, rfl, _, rfl, ite_ (fun _ => ?_) (fun _ => ?_)⟩
      · exact ⟨eD, p, q, ms8, b6 + 1 + 1, r, j, t, _, _, rfl, jl, tl', ep8, eq8, fp, fq, k78, hs8, by omega, by omega, trivial⟩
      exact ⟨eD, p, q, ms8, b6 + 1 + 1, r, j, t, _, _, rfl, jl, tl', ep8, eq8, fp, fq, k78, hs8, by omega, by omega, trivial⟩
    refine ⟨_, rfl, ⟨_, rfl⟩, _, _, rfl, rfl, by decide +kernel, by omega, fun p hp => ?_⟩
    rw [hws]
    have fp := hs.free hp
    have k1 := k0.put (u := .lst (ws.map V.str)) hp
    have hs1 := hs.put (u := .lst (ws.map V.str)) fp
    have ep : upd H p (.lst (ws.map V.str)) p = some (.lst (ws.map V.str)) := upd_same
    show tCons _ _ _ (upd H p (.lst (ws.map V.str))) _
    generalize upd H p (.lst (ws.map V.str)) = H1 at k1 hs1 ep ⊢
    refine ⟨_, rfl, a, l, ms, z, b, 11, rfl, hs1, by decide, by decide, by omega, by omega, fun H2 ms2 r k2 hs2 r0' r10 => ?_⟩
    refine ⟨_, _, rfl, ?_⟩
    have ep2 := k2 _ _ fp.1 fp.2 ep
    refine ⟨_, rfl, _, rfl, p, _, rfl, .inl (SqL.of ep2), a, l, ms2, z, b + 1, ((ws.map V.str).length : Int), rfl, hs2, by rw [List.length_map]; omega, by rw [List.length_map]; omega, by omega, by omega, fun H3 ms3 rj k3 hs3 r0 r1 => ?_⟩
    rw [List.length_map] at r1
    obtain ⟨j, rfl⟩ : ∃ j : Nat, rj = (j : Int) := ⟨rj.toNat, by omega⟩
    have jl : j < ws.length := by omega
    have ep3 := k3 _ _ fp.1 fp.2 ep2
    refine ⟨_, rfl, _, rfl, p, _, rfl, .inl (SqL.of ep3), a, l, ms3, z, b + 1 + 1, ((ws.map V.str).length : Int), rfl, hs3, by rw [List.length_map]; omega, by rw [List.length_map]; omega, by omega, by omega, fun H4 ms6 rt k4 hs4 rt0 rt1 => ?_⟩
    rw [List.length_map] at rt1
    obtain ⟨t, rfl⟩ : ∃ t : Nat, rt = (t : Int) := ⟨rt.toNat, by omega⟩
    have tl' : t < ws.length := by omega
    refine ⟨_, _, rfl, ?_⟩
    have ep4 := k4 _ _ fp.1 fp.2 ep3
    have k14 := k1.trans (k2.trans (k3.trans k4))
    -- the words that may come
    refine ⟨by show 12 ≤ sizeLine; omega, fun q1 hq1 => ?_⟩
    have u1 := same_upd (o := .lst (bnA.map V.str)) hq1
    have eq1 : upd H4 q1 (.lst (bnA.map V.str)) q1 = some (.lst (bnA.map V.str)) := upd_same
    show tSeq _ _ _ _ (upd H4 q1 (.lst (bnA.map V.str)))
    generalize upd H4 q1 (.lst (bnA.map V.str)) = G1 at u1 eq1 ⊢
    refine ⟨_, rfl, by show 15 ≤ sizeLine; omega, fun q2 hq2 => ?_⟩
    have u2 := same_upd (o := .lst (bnB.map V.str)) hq2
    have eq2 : upd G1 q2 (.lst (bnB.map V.str)) q2 = some (.lst (bnB.map V.str)) := upd_same
    refine ⟨q1, q2, bnA.map V.str, bnB.map V.str, rfl, rfl, u2 _ _ eq1, eq2, by show 27 ≤ sizeLine; omega, fun q3 hq3 => ?_⟩
    rw [← List.map_append]
    have hq3 : upd G1 q2 (.lst (bnB.map V.str)) q3 = none := hq3
    have u3 := u2.trans (same_upd (o := .lst ((bnA ++ bnB).map V.str)) hq3)
    have eq3 : upd (upd G1 q2 (.lst (bnB.map V.str))) q3 (.lst ((bnA ++ bnB).map V.str)) q3 = some (.lst ((bnA ++ bnB).map V.str)) := upd_same
    show tSeq _ _ _ _ (upd (upd G1 q2 (.lst (bnB.map V.str))) q3 (.lst ((bnA ++ bnB).map V.str)))
    generalize upd (upd G1 q2 (.lst (bnB.map V.str))) q3 (.lst ((bnA ++ bnB).map V.str)) = G3 at u3 eq3 ⊢
    refine ⟨_, rfl, _, _, rfl, rfl, mul9, by show 11 ≤ sizeLine; omega, fun q4 hq4 => ?_⟩
    have u4 := same_upd (o := .lst (bnC.map V.str)) hq4
    have eq4 : upd G3 q4 (.lst (bnC.map V.str)) q4 = some (.lst (bnC.map V.str)) := upd_same
    refine ⟨q3, q4, (bnA ++ bnB).map V.str, bnC.map V.str, rfl, rfl, u4 _ _ eq3, eq4, by show 38 ≤ sizeLine; omega, fun q hq => ?_⟩
    rw [← List.map_append]
    have hq : upd G3 q4 (.lst (bnC.map V.str)) q = none := hq
    have u5 := u4.trans (same_upd (o := .lst ((bnA ++ bnB ++ bnC).map V.str)) hq)
    have eq6 : upd (upd G3 q4 (.lst (bnC.map V.str))) q (.lst ((bnA ++ bnB ++ bnC).map V.str)) q = some (.lst ((bnA ++ bnB ++ bnC).map V.str)) := upd_same
    show tSeq _ _ _ _ (upd (upd G3 q4 (.lst (bnC.map V.str))) q (.lst ((bnA ++ bnB ++ bnC).map V.str)))
    have u15 := (u1.trans u3).trans u5
    have fq : Off a l q := hs4.free (((u1.trans u3).trans u4).free hq)
    generalize upd (upd G3 q4 (.lst (bnC.map V.str))) q (.lst ((bnA ++ bnB ++ bnC).map V.str)) = H6 at u5 eq6 u15 ⊢
    have ep6 := u15 _ _ ep4
    have hs6 := hs4.but u15
    have k6 := k14.trans (But.of_same u15)
    exact ⟨rfl, p, q, ms6, b + 1 + 1 + 1, r, j, t, _, _, rfl, jl, tl', ep6, eq6, fp, fq, k6, hs6, by omega, by omega, trivial⟩
end
end Vm
/-! the law: texts by hand, and other values -/
namespace Vm
open PySem PySem.Spec PyProof.Rows L2 TL
def hdF : Str := "from t as u keep u.a"
def fxA : List Str := [hdF, hdF ++ " first 0 by u.a", hdF ++ " first 1 by u.a", "from t as u group", "from t as u", cutS hdF none (some (-4))]
def fxB : List Str := ["from t as u, t as u, t as u, t as u keep x.y, x.y, x.y, x.y, x.y", Txt.join " or " [hdF, hdF, hdF]]
def fxC : List Str := ["from t as u group having greatest >= 0, greatest >= 0", "from t as u group u.a group u.a"]
def fxD : List Str := [hdF ++ " first 2 by u.a or " ++ hdF, hdF ++ " falling", "from as as as keep as.as", "from keep u.a"]
def fxE : List Str := ["", " ", "from", "keep", "from t as u keep u.a or", "from t as u group least u.p least u.p"]
def fxF : List Str := [hdF ++ Txt.mul ", u.a" 790, "from t as u where u.a = u.a" ++ Txt.mul ", u.a = u.a" 350 ++ " keep u.a"]
def fxG : List Str := [hdF, Txt.upper hdF, hdF ++ ",", Txt.mul "a " 1900]
theorem TxC.q {L R C M : Nat} {x : Str} (h : TxC L R C M x) (a : L ≤ 4000) (b : R ≤ 250) : TxQ x := ⟨Nat.le_trans h.len a, h.asc, h.run.mono b⟩
theorem from_asc : ∀ c ∈ tl ("from" : Str), c < 128 := by
  have h : (tl ("from" : Str)).all (fun c => decide (c < 128)) = true := by decide +kernel
  exact fun c m => of_decide_eq_true (List.all_eq_true.mp h c m)
theorem fold_app : ∀ (l : List (Array Nat)) (acc : Array Nat), (l.foldl (· ++ ·) acc).toList = acc.toList ++ (l.map Array.toList).flatten
  | [], acc => by simp
  | x :: r, acc => by
    rw [List.foldl_cons, fold_app r, Array.toList_append, List.append_assoc]
    rfl
theorem tl_mul {x : Str} {n : Nat} (h : 2 ≤ n) (hx : x.length ≠ 0) : tl (Txt.mul x (n : Int)) = (List.replicate n (tl x)).flatten := by
  have c1 : ¬ ((n : Int) < 1) := by omega
  have c2 : ¬ (((n : Int) == 1 || x.length == 0) = true) := by
    rw [Bool.or_eq_true, beq_iff_eq, beq_iff_eq]
    omega
  unfold Txt.mul
  rw [if_neg c1, if_neg c2]
  show ((List.replicate ((n : Int)).toNat x.cps).foldl (· ++ ·) #[]).toList = _
  rw [fold_app, Int.toNat_natCast, List.map_replicate]
  rfl
theorem mul_len {n : Nat} {xs : List Nat} : ((List.replicate n xs).flatten).length = n * xs.length := by
  induction n with
  | zero => rw [Nat.zero_mul]; rfl
  | succ m ih => rw [List.replicate_succ, List.flatten_cons, List.length_append, ih, Nat.succ_mul, Nat.add_comm]
theorem mul_mem {n : Nat} {xs : List Nat} {c : Nat} (h : c ∈ (List.replicate n xs).flatten) : c ∈ xs := by
  obtain ⟨l, ml, mc⟩ := List.mem_flatten.mp h
  rw [(List.mem_replicate.mp ml).2] at mc
  exact mc
/-- many times a text without digits -/
theorem mul_q {x : Str} {n : Nat} (h : 2 ≤ n) (hx : x.length ≠ 0) (a : (tl x).all (fun c => decide (c < 128) && !dmB c) = true) : TxC (n * x.length) 0 (n * x.length) (n * x.length) (Txt.mul x (n : Int)) := by
  have e := tl_mul h hx
  have al : ∀ c ∈ (List.replicate n (tl x)).flatten, c < 128 ∧ ¬ dm c := fun c m => by
    have z := List.all_eq_true.mp a c (mul_mem m)
    rw [Bool.and_eq_true, decide_eq_true_iff] at z
    refine ⟨z.1, fun d => ?_⟩
    have z2 := z.2
    rw [(dmB_iff c).mpr d] at z2
    cases z2
  have ln : ((List.replicate n (tl x)).flatten).length = n * x.length := by rw [mul_len, ← len_tl]
  refine ⟨?_, ?_, ?_, ?_, ?_⟩
  · rw [len_tl, e, ln]
    exact Nat.le_refl _
  · rw [e]
    exact fun c m => (al c m).1
  · rw [e]
    intro q s d
    cases q with
    | nil => exact Nat.le_refl _
    | cons c r => exact absurd (d c List.mem_cons_self) (al c (s.subset List.mem_cons_self)).2
  · rw [e, ← ln]
    exact List.count_le_length
  · rw [e, ← ln]
    exact List.count_le_length
theorem fx_ok1 : ∀ x ∈ fxA ++ fxB ++ fxC ++ fxD ++ fxE ++ [hdF, Txt.upper hdF, hdF ++ ",", "from t as u where u.a = u.a", " keep u.a"], TxC 70 1 70 70 x := by
  have h : (fxA ++ fxB ++ fxC ++ fxD ++ fxE ++ [hdF, Txt.upper hdF, hdF ++ ",", "from t as u where u.a = u.a", " keep u.a"]).all (txB 70 1 70 70) = true := by decide +kernel
  exact fun x m => txB_ok (List.all_eq_true.mp h x m)
theorem fx_in {x : Str} (h : x ∈ [hdF, Txt.upper hdF, hdF ++ ",", "from t as u where u.a = u.a", " keep u.a"]) : TxC 70 1 70 70 x := fx_ok1 x (List.mem_append_right _ h)
theorem mU : TxC 3950 0 3950 3950 (Txt.mul ", u.a" 790) := by
  have h := mul_q (x := ", u.a") (n := 790) (by decide) (by decide +kernel) (by decide +kernel)
  have e : 790 * (", u.a" : Str).length = 3950 := by decide +kernel
  rw [e] at h
  exact h
theorem mW : TxC 3850 0 3850 3850 (Txt.mul ", u.a = u.a" 350) := by
  have h := mul_q (x := ", u.a = u.a") (n := 350) (by decide) (by decide +kernel) (by decide +kernel)
  have e : 350 * (", u.a = u.a" : Str).length = 3850 := by decide +kernel
  rw [e] at h
  exact h
theorem mA : TxC 3800 0 3800 3800 (Txt.mul "a " 1900) := by
  have h := mul_q (x := "a ") (n := 1900) (by decide) (by decide +kernel) (by decide +kernel)
  have e : 1900 * ("a " : Str).length = 3800 := by decide +kernel
  rw [e] at h
  exact h
theorem hd_len : hdF.length = 20 := by decide +kernel
theorem wh_len : ("from t as u where u.a = u.a" : Str).length = 27 := by decide +kernel
theorem kp_len : (" keep u.a" : Str).length = 9 := by decide +kernel
theorem fx_ok : ∀ x ∈ fxA ++ fxB ++ fxC ++ fxD ++ fxE ++ fxF ++ fxG, TxQ x := by
  intro x m
  rcases List.mem_append.mp m with m | m
  · rcases List.mem_append.mp m with m | m
    · exact (fx_ok1 x (List.mem_append_left _ m)).q (by decide) (by decide)
    · have h0 := fx_in (x := hdF) (by simp)
      have h1 := fx_in (x := "from t as u where u.a = u.a") (by simp)
      have h2 := fx_in (x := " keep u.a") (by simp)
      have t0 : TxC 20 1 70 70 hdF := ⟨Nat.le_of_eq hd_len, h0.asc, h0.run, h0.cms, h0.nls⟩
      have t1 : TxC 27 1 70 70 "from t as u where u.a = u.a" := ⟨Nat.le_of_eq wh_len, h1.asc, h1.run, h1.cms, h1.nls⟩
      have t2 : TxC 9 1 70 70 " keep u.a" := ⟨Nat.le_of_eq kp_len, h2.asc, h2.run, h2.cms, h2.nls⟩
      rcases List.mem_cons.mp m with e | m
      · exact e ▸ (t0.app mU).q (by decide) (by decide)
      rcases List.mem_cons.mp m with e | m
      · exact e ▸ ((t1.app mW).app t2).q (by decide) (by decide)
      · exact nomatch m
  · rcases List.mem_cons.mp m with e | m
    · exact e ▸ (fx_in (x := hdF) (by simp)).q (by decide) (by decide)
    rcases List.mem_cons.mp m with e | m
    · exact e ▸ (fx_in (x := Txt.upper hdF) (by simp)).q (by decide) (by decide)
    rcases List.mem_cons.mp m with e | m
    · exact e ▸ (fx_in (x := hdF ++ ",") (by simp)).q (by decide) (by decide)
    rcases List.mem_cons.mp m with e | m
    · exact e ▸ mA.q (by decide) (by decide)
    · exact nomatch m
theorem fxG_ok : ∀ x ∈ fxG, TxQ x := fun x m => fx_ok x (List.mem_append_right _ m)
theorem fxF_ok : ∀ x ∈ fxA ++ fxB ++ fxC ++ fxD ++ fxE ++ fxF, TxQ x := fun x m => fx_ok x (List.mem_append_left _ m)
theorem mulU : MulOk ", u.a" 790 := ⟨by decide +kernel, fun _ _ => by decide +kernel, fun _ _ => by decide +kernel⟩
theorem mulW : MulOk ", u.a = u.a" 350 := ⟨by decide +kernel, fun _ _ => by decide +kernel, fun _ _ => by decide +kernel⟩
theorem mulA : MulOk "a " 1900 := ⟨by decide +kernel, fun _ _ => by decide +kernel, fun _ _ => by decide +kernel⟩
def GoodQ (K : PySem.W.Frag) (H : Hp) (v : V) : Prop := ∃ (t : Tr) (n : Nat) (bs : List Addr), Dt K H v t n bs ∧ n ≤ 8 ∧ t.text.length ≤ sizeLine ∧ AskOk t
theorem GoodQ.same {K : PySem.W.Frag} {H H' : Hp} {v : V} (h : GoodQ K H v) (k : Same H H') : GoodQ K H' v := let ⟨t, n, bs, d, a, b, c⟩ := h; ⟨t, n, bs, d.same k, a, b, c⟩
theorem good_q {K : PySem.W.Frag} {H : Hp} {x : Str} (h : TxQ x) : GoodQ K H (.str x) := by
  have big : sizeLine > 1000000 := by decide
  have l := h.len
  refine ⟨.str x, 0, [], str_dt (by omega) h.asc, by decide, ?_, fun y e => (Tr.str.inj e) ▸ h⟩
  have b := StrLaws.reprText_len x fun c m => Nat.lt_of_lt_of_le (h.asc c m) (by decide)
  show (reprText x).length ≤ sizeLine
  omega
theorem good_qs {K : PySem.W.Frag} {H : Hp} {xs : List Str} (h : ∀ x ∈ xs, TxQ x) : ∀ v ∈ xs.map V.str, GoodQ K H v := fun v m => by
  obtain ⟨x, mx, rfl⟩ := List.mem_map.mp m
  exact good_q (h x mx)
theorem right_of {K : PySem.W.Frag} {v : V} {H : Hp} {Q : VK} {E : XK} (h : GoodQ K H v) (q : ∀ H', Same H H' → Q (.bl true) H') : spRight9 K [v] H Q E :=
  let ⟨t, n, bs, d, a, b, c⟩ := h; ⟨v, t, n, bs, rfl, d, a, b, c, q⟩
end Vm
/-! the law -/
namespace Vm
open PySem PySem.Spec PyProof.Rows L2 TL
def bL : Nat → Nat
  | 0 => 1660
  | m + 1 => 2 * bL m + 60
def bR : Nat → Nat
  | 0 => 13
  | m + 1 => max (2 * bR m + 1) 50
def bC : Nat → Nat
  | 0 => 60
  | m + 1 => 2 * bC m + 2
def bM : Nat → Nat
  | 0 => 0
  | m + 1 => 2 * bM m + 2
theorem b_few : ∀ {m : Nat}, m < 3 → bL m ≤ 8000
  | 0, _ => by decide
  | 1, _ => by decide
  | 2, _ => by decide
  | m + 3, h => absurd h (by omega)
theorem b_all : ∀ {m : Nat}, m ≤ 3 → bL m ≤ 20000 ∧ bR m ≤ 250
  | 0, _ => by decide
  | 1, _ => by decide
  | 2, _ => by decide
  | 3, _ => by decide
  | m + 4, h => absurd h (by omega)
abbrev sLaw : Stmt := top 73
def spLaw (K : PySem.W.Frag) : Sp := fun vs H Q _ => ∃ (a : Addr) (ns : List Int), vs = [.ref a] ∧ SqL K H a (ns.map V.int) ∧ ns.length ≤ 63 ∧ ∀ H', Q (.bl true) H'
section
variable {P : Program} {w : World} {K : PySem.W.Frag} {mg : Str → Option Value} {base : Heap} {fD fP fS fW fR fB : Addr}
abbrev nmLaw : List Str := ["_law_script", "_law_source_here", "_law_head", "_law_some", "_law_it", "_law_turn", "_law_written_here", "_law_k", "_law_bent_here", "_law_again"]
theorem scLaw : FnScope nmLaw ["_law_script"] (defScope sLaw) := ⟨rfl, rfl, rfl, by decide +kernel, rfl, by decide +kernel, by decide +kernel⟩
def gL1 (K : PySem.W.Frag) (Q : VK) : TS := fun D σ H1 => D.rt = Q ∧ ∃ (sc a l q : Addr) (ms : List Int) (z : Int) (xs : List Str), σ = [some (.ref sc), some (.ref a), some (.str hdF), some (.ref q), none, none, none, none, none, none] ∧ Src H1 a l ms z 0 ∧ H1 q = some (.lst (xs.map V.str)) ∧ xs.length = 22 ∧ ∀ x ∈ xs, TxQ x
def gL2 (Q : VK) : TS := fun D σ H1 => D.rt = Q ∧ ∃ (v0 : Option V) (a l : Addr) (ms : List Int) (z : Int) (v2 v3 v4 : Option V), σ = [v0, some (.ref a), v2, v3, v4, none, none, none, none, none] ∧ Src H1 a l ms z 0
theorem ok_law {f : Addr} {fd fdD fdS fdW fdR fdB : FuncData} (F : Fun K "law" "law" sLaw f fd) (T : TxtL K mg fD fP)
    (cS : Calls K mg "_law_source" fS) (GS : FnOk P w K mg base CX0 1 fS fdS ["_law_script"] (spSource K)) (bS : Binds K fdS ["_law_script"] [])
    (GD : FnOk P w K mg base CX0 1 fD fdD ["_law_source_here", "_law_many"] spDraw) (bD : Binds K fdD ["_law_source_here", "_law_many"] [])
    (cR : Calls K mg "_law_right" fR) (GR : FnG P w K mg base CX0 10 fR fdR ["_law_it"] (spRight9 K)) (bRt : Binds K fdR ["_law_it"] [])
    (cW : Calls K mg "_law_written" fW) (GW : FnOk P w K mg base CX0 7 fW fdW ["_law_source_here"] (spWritten K)) (bW : Binds K fdW ["_law_source_here"] [])
    (cB : Calls K mg "_law_bent" fB) (GB : FnOk P w K mg base CX0 4 fB fdB ["_law_source_here", "_law_it"] spBent) (bBt : Binds K fdB ["_law_source_here", "_law_it"] []) :
    FnG P w K mg base CX0 11 f fd ["_law_script"] (spLaw K) := by
  refine okG0 F scLaw (fun vs H Q E h => ?_) (fun cdv A outer s H vs Q E ag hr h => ?_)
  · obtain ⟨a, ns, rfl, _⟩ := h
    rfl
  · obtain ⟨sc, ns, rfl, hS, hlen, k⟩ := h
    have hr1 : Room 1 _ := hr.mono (by decide)
    have hr4 : Room 4 _ := hr.mono (by decide)
    have hr7 : Room 7 _ := hr.mono (by decide)
    have big : sizeLine > 100000 := by decide
    refine ⟨_, pss_cons (ps_set (i := 1) scLaw.nd rfl (Or.inl rfl) (pe_call GS hr1 rfl cS.g cS.k bS .nil pass0 (pa_cons (pv 0) pa_nil)))
      (pss_cons (ps_set (i := 2) scLaw.nd rfl (Or.inl rfl) pe_str)
      (pss_cons (ps_set (i := 3) scLaw.nd rfl (Or.inl rfl) (pe_lst (pa_cons (pv 2) (pa_cons (pe_op op_add_str (pv 2) pe_str) (pa_cons (pe_op op_add_str (pv 2) pe_str) (pa_cons pe_str (pa_cons pe_str (pa_cons (pe_slice sl_str (pv 2) po_none (po_some (pe_un un_neg pe_int))) pa_nil))))))))
      (pss_cons (ps_set (i := 3) scLaw.nd rfl (Or.inl rfl) (pe_op op_cat (pv 3) (pe_lst (pa_cons pe_str (pa_cons (pe_join pe_str (pe_op op_rep (pe_lst (pa_cons (pv 2) pa_nil)) pe_int)) pa_nil)))))
      (pss_cons (ps_set (i := 3) scLaw.nd rfl (Or.inl rfl) (pe_op op_cat (pv 3) (pe_lst (pa_cons pe_str (pa_cons pe_str pa_nil)))))
      (pss_cons (ps_set (i := 3) scLaw.nd rfl (Or.inl rfl) (pe_op op_cat (pv 3) (pe_lst (pa_cons (pe_op op_add_str (pe_op op_add_str (pv 2) pe_str) (pv 2)) (pa_cons (pe_op op_add_str (pv 2) pe_str) (pa_cons pe_str (pa_cons pe_str pa_nil)))))))
      (pss_cons (ps_set (i := 3) scLaw.nd rfl (Or.inl rfl) (pe_op op_cat (pv 3) (pe_lst (pa_cons pe_str (pa_cons pe_str (pa_cons pe_str (pa_cons pe_str (pa_cons pe_str (pa_cons pe_str pa_nil)))))))))
      (pss_cons (ps_set (i := 3) scLaw.nd rfl (Or.inl rfl) (pe_op op_cat (pv 3) (pe_lst (pa_cons (pe_op op_add_str (pv 2) (pe_op op_mulS pe_str pe_int)) (pa_cons (pe_op op_add_str (pe_op op_add_str pe_str (pe_op op_mulS pe_str pe_int)) pe_str) pa_nil)))))
      (pss_imp (G := gL1 K Q) (pss_cons (ps_for PassesOwn.never rfl (pi_list (pe_op op_cat (pv 3) (pe_lst (pa_cons pe_non (pa_cons pe_bl (pa_cons pe_int (pa_cons (pe_tupF pa_nil) (pa_cons (pe_lst pa_nil) (pa_cons pe_dnewK (pa_cons (pe_tupF (pa_cons pe_str pa_nil)) (pa_cons (pe_lst (pa_cons (pv 2) pa_nil)) (pa_cons (pe_upper (pv 2)) (pa_cons (pe_op op_add_str (pv 2) pe_str) (pa_cons (pe_op op_mulS pe_str pe_int) pa_nil)))))))))))))) (pg_name (i := 4) scLaw.nd rfl (Or.inl rfl))
        (pss_one (ps_if (pt_not (pt_val (pe_callG GR ag hr rfl cR.g cR.k bRt (pa_cons (pv 4) pa_nil)))) (pss_one (ps_ret pe_bl)) pss_nil)))
      (pss_imp (G := gL2 Q) (pss_cons (ps_for PassesOwn.never rfl (pi_range1 rfl T.range (pa_cons pe_int pa_nil)) (pg_name (i := 5) scLaw.nd rfl (Or.inl rfl))
        (pss_cons (ps_set (i := 6) scLaw.nd rfl (Or.inl rfl) (pe_call GW hr7 rfl cW.g cW.k bW .nil pass0 (pa_cons (pv 1) pa_nil)))
        (pss_cons (ps_if (pt_not (pt_val (pe_callG GR ag hr rfl cR.g cR.k bRt (pa_cons (pv 6) pa_nil)))) (pss_one (ps_ret pe_bl)) pss_nil)
        (pss_one (ps_for PassesOwn.never rfl (pi_range1 rfl T.range (pa_cons pe_int pa_nil)) (pg_name (i := 7) scLaw.nd rfl (Or.inl rfl))
          (pss_cons (ps_set (i := 8) scLaw.nd rfl (Or.inl rfl) (pv 6))
          (pss_cons (ps_for PassesOwn.never rfl (pi_range1 rfl T.range (pa_cons (pe_op op_add pe_int (pe_call GD hr1 rfl T.gD T.kD bD .nil pass0 (pa_cons (pv 1) (pa_cons pe_int pa_nil)))) pa_nil)) (pg_name (i := 9) scLaw.nd rfl (Or.inl rfl))
            (pss_one (ps_set (i := 8) scLaw.nd rfl (Or.inl rfl) (pe_call GB hr4 rfl cB.g cB.k bBt .nil pass0 (pa_cons (pv 1) (pa_cons (pv 8) pa_nil))))))
          (pss_one (ps_if (PW.pt (pw_and (pt_cmpR op_lt (pe_callB call_len_str (by rfl) T.len (by decide +kernel) (pa_cons (pv 8) pa_nil)) pe_int (nomark _)) (pw_and1 (pt_not (pt_val (pe_callG GR ag hr rfl cR.g cR.k bRt (pa_cons (pv 8) pa_nil))))))) (pss_one (ps_ret pe_bl)) pss_nil)))))))))
      (pss_one (ps_ret pe_bl))) (fun D0 σ0 G0 g => ?_))) (fun D0 σ0 G0 g => ?_))))))))), ?_⟩
    · -- texts that are drawn
      obtain ⟨eD, v0, a, l, ms, z, v2, v3, v4, rfl, hs4⟩ := g
      subst eD
      refine ⟨12, rfl, by decide, by decide, for_range (lo := 0) (n := 12) (fun i σ H' => ∃ (ms' : List Int) (b' : Int) (v5 v6 v7 v8 v9 : Option V), σ = [v0, some (.ref a), v2, v3, v4, v5, v6, v7, v8, v9] ∧ Src H' a l ms' z b' ∧ 0 ≤ b' ∧ b' ≤ 3000 * (i : Int)) ⟨ms, 0, none, none, none, none, none, rfl, hs4, by decide, by decide⟩ ?_ ?_⟩
      · rintro i σ H5 hi ⟨ms5, b5, v5, v6, v7, v8, v9, rfl, hs5, c1, c2⟩
        refine ⟨_, rfl, a, l, ms5, z, b5, rfl, hs5, c1, by omega, fun H6 ms6 b6 x k6 hs6 c3 c4 tw => ?_⟩
        refine ⟨_, rfl, ?_⟩
        dsimp only [tNil, List.append_nil]
        refine right_of (good_q (tw.q (by decide) (by decide))) fun H7 s7 => ⟨_, rfl, iteF ?_⟩
        have hs7 := hs6.but s7
        refine ⟨8, rfl, by decide, by decide, for_range (lo := 0) (n := 8) (fun j σ H' => ∃ (ms' : List Int) (b' : Int) (v5 v7 v8 v9 : Option V), σ = [v0, some (.ref a), v2, v3, v4, v5, some (.str x), v7, v8, v9] ∧ Src H' a l ms' z b' ∧ 0 ≤ b' ∧ b' ≤ b5 + 1600 + 40 * (j : Int)) ⟨ms6, b6, _, _, _, _, rfl, hs7, by omega, by omega⟩ ?_ ?_⟩
        · rintro j σ H8 hj ⟨ms8, b8, w5, w7, w8, w9, rfl, hs8, d1, d2⟩
          refine ⟨_, rfl, ?_⟩
          refine ⟨_, rfl, a, l, ms8, z, b8, 3, rfl, hs8, by decide, by decide, d1, by omega, fun H9 ms9 r k9 hs9 r0 r3 => ?_⟩
          obtain ⟨n, rfl⟩ : ∃ n : Nat, r = (n : Int) := ⟨r.toNat, by omega⟩
          have n3 : n < 3 := by omega
          have e1 : (1 : Int) + (n : Int) = ((1 + n : Nat) : Int) := by omega
          refine ⟨_, _, rfl, rfl, ((1 + n : Nat) : Int), congrArg (fun z => [V.int z]) e1, by omega, by omega, for_range (lo := 0) (n := 1 + n) (fun m σ H' => ∃ (ms' : List Int) (b' : Int) (v5 v7 v9 : Option V) (y : Str), σ = [v0, some (.ref a), v2, v3, v4, v5, some (.str x), v7, some (.str y), v9] ∧ Src H' a l ms' z b' ∧ 0 ≤ b' ∧ b' ≤ b8 + 1 + 10 * (m : Int) ∧ TxC (bL m) (bR m) (bC m) (bM m) y) ⟨ms9, b8 + 1, _, _, _, x, rfl, hs9, by omega, by omega, tw⟩ ?_ ?_⟩
          · rintro m σ H10 hm ⟨ms10, b10, u5, u7, u9, y, rfl, hs10, f1, f2, ty⟩
            refine ⟨_, rfl, _, rfl, a, l, y, ms10, z, b10, bL m, bR m, bC m, bM m, rfl, hs10, f1, by omega, ty, b_few (by omega), fun H11 ms11 b11 y' k11 hs11 g1 g2 ty' => ?_⟩
            exact ⟨ms11, b11, _, _, _, y', rfl, hs11, by omega, by omega, ty'⟩
          · rintro σ H10 ⟨ms10, b10, u5, u7, u9, y, rfl, hs10, f1, f2, ty⟩
            obtain ⟨y1, y2⟩ := b_all (m := 1 + n) (by omega)
            have ly := ty.len
            refine ⟨_, rfl, y, rfl, by omega, _, _, rfl, rfl, _, rfl, ?_⟩
            by_cases sm : (y.length : Int) < 4000
            · have qy : TxQ y := ⟨by omega, ty.asc, ty.run.mono y2⟩
              refine if_as (decide_eq_true sm) (iteT ?_)
              refine ⟨_, rfl, ?_⟩
              dsimp only [tNil, List.append_nil]
              refine right_of (good_q qy) fun H12 s12 => ⟨_, rfl, iteF ?_⟩
              exact ⟨ms10, b10, _, _, _, _, rfl, hs10.but s12, by omega, by omega⟩
            · refine if_as (decide_eq_false sm) (iteF (iteF ?_))
              exact ⟨ms10, b10, _, _, _, _, rfl, hs10, by omega, by omega⟩
        · rintro σ H8 ⟨ms8, b8, w5, w7, w8, w9, rfl, hs8, d1, d2⟩
          exact ⟨ms8, b8, _, _, _, _, _, rfl, hs8, by omega, by omega⟩
      · rintro σ H5 ⟨ms5, b5, v5, v6, v7, v8, v9, rfl, hs5, c1, c2⟩
        exact k H5
    · -- texts by hand, other values
      obtain ⟨eD, sc', a, l, q, ms, z, xs, rfl, hs0, eq0, lxs, okx⟩ := g
      -- the other values
      refine ⟨_, rfl, by show 0 ≤ sizeLine; omega, fun p1 o1 g1 ho1 => ?_⟩
      have t1 := same_upd (o := .frz o1 (.tup [])) g1
      have d1 : upd G0 p1 (.frz o1 (.tup [])) p1 = some (.frz o1 (.tup [])) := upd_same
      show tCons _ _ _ (upd G0 p1 (.frz o1 (.tup []))) _
      generalize upd G0 p1 (.frz o1 (.tup [])) = H11 at t1 d1 ⊢
      refine ⟨by show 0 ≤ sizeLine; omega, fun p2 g2 => ?_⟩
      have t2 := same_upd (o := .lst []) g2
      have d2 : upd H11 p2 (.lst []) p2 = some (.lst []) := upd_same
      show tCons _ _ _ (upd H11 p2 (.lst [])) _
      generalize upd H11 p2 (.lst []) = H12 at t2 d2 ⊢
      refine fun p3 g3 => ?_
      have t3 := same_upd (o := .dK []) g3
      have d3 : upd H12 p3 (.dK []) p3 = some (.dK []) := upd_same
      show tCons _ _ _ (upd H12 p3 (.dK [])) _
      generalize upd H12 p3 (.dK []) = H13 at t3 d3 ⊢
      refine ⟨by show 1 ≤ sizeLine; omega, fun p4 o4 g4 ho4 => ?_⟩
      have t4 := same_upd (o := .frz o4 (.tup [V.str "from"])) g4
      have d4 : upd H13 p4 (.frz o4 (.tup [V.str "from"])) p4 = some (.frz o4 (.tup [V.str "from"])) := upd_same
      show tCons _ _ _ (upd H13 p4 (.frz o4 (.tup [V.str "from"]))) _
      generalize upd H13 p4 (.frz o4 (.tup [V.str "from"])) = H14 at t4 d4 ⊢
      refine ⟨_, rfl, by show 1 ≤ sizeLine; omega, fun p5 g5 => ?_⟩
      have t5 := same_upd (o := .lst [V.str hdF]) g5
      have d5 : upd H14 p5 (.lst [V.str hdF]) p5 = some (.lst [V.str hdF]) := upd_same
      show tCons _ _ _ (upd H14 p5 (.lst [V.str hdF])) _
      generalize upd H14 p5 (.lst [V.str hdF]) = H15 at t5 d5 ⊢
      refine ⟨_, rfl, ⟨_, rfl⟩, _, rfl, rfl, by decide +kernel, _, rfl, _, _, rfl, rfl, by decide +kernel, _, _, rfl, rfl, mulA, by show 11 ≤ sizeLine; omega, fun q8 h8 => ?_⟩
      let mix : List V := [.non, .bl true, .int 0, .ref p1, .ref p2, .ref p3, .ref p4, .ref p5, .str (Txt.upper hdF), .str (hdF ++ ","), .str (Txt.mul "a " 1900)]
      have t6 := same_upd (o := .lst mix) h8
      have d6 : upd H15 q8 (.lst mix) q8 = some (.lst mix) := upd_same
      show rCat _ _ (upd H15 q8 (.lst mix)) _
      have t15 := t1.trans (t2.trans (t3.trans (t4.trans t5)))
      have gmix : ∀ v ∈ mix, GoodQ K H15 v := fun v m => by
        have hd0 : TxQ hdF := fxG_ok hdF (by simp [fxG])
        have dh : Dt K H15 (.str hdF) (.str hdF) 0 [] := str_dt (by have := hd0.len; omega) hd0.asc
        have df : Dt K H15 (.str "from") (.str "from") 0 [] := str_dt (by decide) from_asc
        rcases List.mem_cons.mp m with e | m
        · rw [e]; exact ⟨.non, 0, [], .non, by decide, by decide +kernel, fun _ e => nomatch e⟩
        rcases List.mem_cons.mp m with e | m
        · rw [e]; exact ⟨.bl true, 0, [], .bl _, by decide, by decide +kernel, fun _ e => nomatch e⟩
        rcases List.mem_cons.mp m with e | m
        · rw [e]; exact ⟨.int 0, 0, [], .int (by decide), by decide, by decide +kernel, fun _ e => nomatch e⟩
        rcases List.mem_cons.mp m with e | m
        · rw [e]; exact ⟨.tup [], 1, [p1], .tup ((t2.trans (t3.trans (t4.trans t5))) _ _ d1) ho1 .nil List.not_mem_nil, by decide, by decide +kernel, fun _ e => nomatch e⟩
        rcases List.mem_cons.mp m with e | m
        · rw [e]; exact ⟨.lst [], 1, [p2], .lst ((t3.trans (t4.trans t5)) _ _ d2) .nil List.not_mem_nil, by decide, by decide +kernel, fun _ e => nomatch e⟩
        rcases List.mem_cons.mp m with e | m
        · rw [e]; exact ⟨.dct [] [], 1, [p3], .dct (kvs := []) ((t4.trans t5) _ _ d3) (fun _ m => nomatch m) .nil List.not_mem_nil, by decide, by decide +kernel, fun _ e => nomatch e⟩
        rcases List.mem_cons.mp m with e | m
        · rw [e]; exact ⟨.tup [.str "from"], 1, p4 :: ([] ++ []), .tup (t5 _ _ d4) ho4 (.cons df .nil) List.not_mem_nil, by decide, by decide +kernel, fun _ e => nomatch e⟩
        rcases List.mem_cons.mp m with e | m
        · rw [e]; exact ⟨.lst [.str hdF], 1, p5 :: ([] ++ []), .lst d5 (.cons dh .nil) List.not_mem_nil, by decide, by decide +kernel, fun _ e => nomatch e⟩
        rcases List.mem_cons.mp m with e | m
        · rw [e]; exact good_q (fxG_ok _ (by simp [fxG]))
        rcases List.mem_cons.mp m with e | m
        · rw [e]; exact good_q (fxG_ok _ (by simp [fxG]))
        rcases List.mem_cons.mp m with e | m
        · rw [e]; exact good_q (fxG_ok _ (by simp [fxG]))
        · exact nomatch m
      have lmix : mix.length = 11 := rfl
      generalize hH16 : upd H15 q8 (.lst mix) = H16 at t6 d6 ⊢
      have gmix : ∀ v ∈ mix, GoodQ K H16 v := fun v m => (gmix v m).same t6
      clear_value mix
      have s016 := t15.trans t6
      have e16 := s016 _ _ eq0
      refine ⟨q, q8, _, _, rfl, rfl, e16, d6, by rw [List.length_map, lxs, lmix]; show 33 ≤ sizeLine; omega, fun q9 h9 => ?_⟩
      have s9 := same_upd (o := .lst (xs.map V.str ++ mix)) h9
      have e17 : upd H16 q9 (.lst (xs.map V.str ++ mix)) q9 = some (.lst (xs.map V.str ++ mix)) := upd_same
      have good : ∀ v ∈ xs.map V.str ++ mix, GoodQ K (upd H16 q9 (.lst (xs.map V.str ++ mix))) v := fun v m => by
        rcases List.mem_append.mp m with m | m
        · exact good_qs okx v m
        · exact (gmix v m).same s9
      have hs9 := hs0.but (s016.trans s9)
      refine ⟨q9, rfl, ⟨_, SqL.of e17⟩, for_list (K := K) (a := q9) (xs := xs.map V.str ++ mix) (fun i σ H' => ∃ v4 : Option V, σ = [some (.ref sc'), some (.ref a), some (.str hdF), some (.ref q), v4, none, none, none, none, none] ∧ Same (upd H16 q9 (.lst (xs.map V.str ++ mix))) H') ⟨none, rfl, fun _ _ e => e⟩ (fun i σ H' _ ⟨_, _, s⟩ => SqL.of (s _ _ e17)) ?_ ?_⟩
      · rintro i y σ H3 hi ⟨v4, rfl, s3⟩
        refine ⟨_, rfl, ?_⟩
        dsimp only [tNil, List.append_nil]
        refine right_of ((good y (List.mem_of_getElem? hi)).same s3) fun H4 s4 => ⟨_, rfl, ?_⟩
        exact iteF ⟨_, rfl, s3.trans s4⟩
      · rintro σ H3 ⟨v4, rfl, s3⟩
        exact ⟨eD, _, a, l, ms, z, _, _, _, rfl, hs9.but s3⟩
    · -- the texts by hand
      refine ⟨_, rfl, sc, ns, rfl, hS, hlen, fun H1 a l ms z s1 na nl hs1 => ?_⟩
      refine ⟨_, rfl, _, rfl, _, _, rfl, rfl, by decide +kernel, _, rfl, _, _, rfl, rfl, by decide +kernel, _, rfl, _, rfl, _, rfl, _, rfl, by decide +kernel, by show 6 ≤ sizeLine; omega, fun q1 h1 => ?_⟩
      have u1 := same_upd (o := .lst (fxA.map V.str)) h1
      have e1 : upd H1 q1 (.lst (fxA.map V.str)) q1 = some (.lst (fxA.map V.str)) := upd_same
      show tSeq _ _ _ _ (upd H1 q1 (.lst (fxA.map V.str)))
      generalize upd H1 q1 (.lst (fxA.map V.str)) = H2 at u1 e1 ⊢
      -- b
      refine ⟨_, rfl, ⟨_, rfl⟩, _, rfl, by show 1 ≤ sizeLine; omega, fun c1 hc1 => ?_⟩
      have v1 := same_upd (o := .lst [V.str hdF]) hc1
      refine ⟨c1, 3, [V.str hdF], rfl, rfl, upd_same, by decide, by decide, by show 3 ≤ sizeLine; omega, fun c2 hc2 => ?_⟩
      have hc2 : upd H2 c1 (.lst [V.str hdF]) c2 = none := hc2
      have v2 := v1.trans (same_upd (o := .lst ([hdF, hdF, hdF].map V.str)) hc2)
      have ec2 : upd (upd H2 c1 (.lst [V.str hdF])) c2 (.lst ([hdF, hdF, hdF].map V.str)) c2 = some (.lst ([hdF, hdF, hdF].map V.str)) := upd_same
      have e1' := v2 _ _ e1
      refine ⟨_, c2, [hdF, hdF, hdF], rfl, rfl, .inl (SqL.of ec2), by decide +kernel, ?_⟩
      refine ⟨by show 2 ≤ sizeLine; omega, fun q2 h2 => ?_⟩
      have h2 : (upd (upd H2 c1 (.lst [V.str hdF])) c2 (.lst ([hdF, hdF, hdF].map V.str))) q2 = none := h2
      have u2 := same_upd (o := .lst (fxB.map V.str)) h2
      have e2 : upd (upd (upd H2 c1 (.lst [V.str hdF])) c2 (.lst ([hdF, hdF, hdF].map V.str))) q2 (.lst (fxB.map V.str)) q2 = some (.lst (fxB.map V.str)) := upd_same
      refine ⟨q1, q2, _, _, rfl, rfl, u2 _ _ e1', e2, by show 8 ≤ sizeLine; omega, fun q3 h3 => ?_⟩
      rw [← List.map_append]
      have h3 : upd (upd (upd H2 c1 (.lst [V.str hdF])) c2 (.lst ([hdF, hdF, hdF].map V.str))) q2 (.lst (fxB.map V.str)) q3 = none := h3
      have u3 := (v2.trans u2).trans (same_upd (o := .lst ((fxA ++ fxB).map V.str)) h3)
      have e3 : upd (upd (upd (upd H2 c1 (.lst [V.str hdF])) c2 (.lst ([hdF, hdF, hdF].map V.str))) q2 (.lst (fxB.map V.str))) q3 (.lst ((fxA ++ fxB).map V.str)) q3 = some (.lst ((fxA ++ fxB).map V.str)) := upd_same
      show tSeq _ _ _ _ (upd (upd (upd (upd H2 c1 (.lst [V.str hdF])) c2 (.lst ([hdF, hdF, hdF].map V.str))) q2 (.lst (fxB.map V.str))) q3 (.lst ((fxA ++ fxB).map V.str)))
      generalize upd (upd (upd (upd H2 c1 (.lst [V.str hdF])) c2 (.lst ([hdF, hdF, hdF].map V.str))) q2 (.lst (fxB.map V.str))) q3 (.lst ((fxA ++ fxB).map V.str)) = H4 at u3 e3 ⊢
      -- c
      refine ⟨_, rfl, by show 2 ≤ sizeLine; omega, fun q4 h4 => ?_⟩
      have u4 := same_upd (o := .lst (fxC.map V.str)) h4
      have e4 : upd H4 q4 (.lst (fxC.map V.str)) q4 = some (.lst (fxC.map V.str)) := upd_same
      refine ⟨q3, q4, _, _, rfl, rfl, u4 _ _ e3, e4, by show 10 ≤ sizeLine; omega, fun q5 h5 => ?_⟩
      rw [← List.map_append]
      have h5 : upd H4 q4 (.lst (fxC.map V.str)) q5 = none := h5
      have u5 := u4.trans (same_upd (o := .lst ((fxA ++ fxB ++ fxC).map V.str)) h5)
      have e5 : upd (upd H4 q4 (.lst (fxC.map V.str))) q5 (.lst ((fxA ++ fxB ++ fxC).map V.str)) q5 = some (.lst ((fxA ++ fxB ++ fxC).map V.str)) := upd_same
      show tSeq _ _ _ _ (upd (upd H4 q4 (.lst (fxC.map V.str))) q5 (.lst ((fxA ++ fxB ++ fxC).map V.str)))
      generalize upd (upd H4 q4 (.lst (fxC.map V.str))) q5 (.lst ((fxA ++ fxB ++ fxC).map V.str)) = H5 at u5 e5 ⊢
      -- d
      refine ⟨_, rfl, _, rfl, _, _, rfl, rfl, by decide +kernel, _, rfl, _, _, rfl, rfl, by decide +kernel, _, rfl, _, _, rfl, rfl, by decide +kernel, by show 4 ≤ sizeLine; omega, fun q6 h6 => ?_⟩
      have u6 := same_upd (o := .lst (fxD.map V.str)) h6
      have e6 : upd H5 q6 (.lst (fxD.map V.str)) q6 = some (.lst (fxD.map V.str)) := upd_same
      refine ⟨q5, q6, _, _, rfl, rfl, u6 _ _ e5, e6, by show 14 ≤ sizeLine; omega, fun q7 h7 => ?_⟩
      rw [← List.map_append]
      have h7 : upd H5 q6 (.lst (fxD.map V.str)) q7 = none := h7
      have u7 := u6.trans (same_upd (o := .lst ((fxA ++ fxB ++ fxC ++ fxD).map V.str)) h7)
      have e7 : upd (upd H5 q6 (.lst (fxD.map V.str))) q7 (.lst ((fxA ++ fxB ++ fxC ++ fxD).map V.str)) q7 = some (.lst ((fxA ++ fxB ++ fxC ++ fxD).map V.str)) := upd_same
      show tSeq _ _ _ _ (upd (upd H5 q6 (.lst (fxD.map V.str))) q7 (.lst ((fxA ++ fxB ++ fxC ++ fxD).map V.str)))
      generalize upd (upd H5 q6 (.lst (fxD.map V.str))) q7 (.lst ((fxA ++ fxB ++ fxC ++ fxD).map V.str)) = H6 at u7 e7 ⊢
      -- e
      refine ⟨_, rfl, by show 6 ≤ sizeLine; omega, fun q8 h8 => ?_⟩
      have u8 := same_upd (o := .lst (fxE.map V.str)) h8
      have e8 : upd H6 q8 (.lst (fxE.map V.str)) q8 = some (.lst (fxE.map V.str)) := upd_same
      refine ⟨q7, q8, _, _, rfl, rfl, u8 _ _ e7, e8, by show 20 ≤ sizeLine; omega, fun q9 h9 => ?_⟩
      rw [← List.map_append]
      have h9 : upd H6 q8 (.lst (fxE.map V.str)) q9 = none := h9
      have u9 := u8.trans (same_upd (o := .lst ((fxA ++ fxB ++ fxC ++ fxD ++ fxE).map V.str)) h9)
      have e9 : upd (upd H6 q8 (.lst (fxE.map V.str))) q9 (.lst ((fxA ++ fxB ++ fxC ++ fxD ++ fxE).map V.str)) q9 = some (.lst ((fxA ++ fxB ++ fxC ++ fxD ++ fxE).map V.str)) := upd_same
      show tSeq _ _ _ _ (upd (upd H6 q8 (.lst (fxE.map V.str))) q9 (.lst ((fxA ++ fxB ++ fxC ++ fxD ++ fxE).map V.str)))
      generalize upd (upd H6 q8 (.lst (fxE.map V.str))) q9 (.lst ((fxA ++ fxB ++ fxC ++ fxD ++ fxE).map V.str)) = H7 at u9 e9 ⊢
      -- f
      have lU := mU.len
      have lW := mW.len
      have lH := hd_len
      have lK := kp_len
      have lQ := wh_len
      have lQW : ("from t as u where u.a = u.a" ++ Txt.mul ", u.a = u.a" 350 : Str).length ≤ 3877 := by
        rw [len_tl, tl_append, List.length_append, ← len_tl, ← len_tl]
        omega
      refine ⟨_, rfl, _, rfl, _, _, rfl, rfl, mulU, _, _, rfl, rfl, by show hdF.length + _ ≤ sizeLine; rw [lH]; omega, _, _, rfl, rfl, mulW, _, _, rfl, rfl, by rw [lQ]; omega, _, _, rfl, rfl, by rw [lK]; omega, by show 2 ≤ sizeLine; omega, fun r1 hr1' => ?_⟩
      have u10 := same_upd (o := .lst (fxF.map V.str)) hr1'
      have e10 : upd H7 r1 (.lst (fxF.map V.str)) r1 = some (.lst (fxF.map V.str)) := upd_same
      refine ⟨q9, r1, _, _, rfl, rfl, u10 _ _ e9, e10, by show 22 ≤ sizeLine; omega, fun r2 hr2' => ?_⟩
      rw [← List.map_append]
      have hr2' : upd H7 r1 (.lst (fxF.map V.str)) r2 = none := hr2'
      have u11 := u10.trans (same_upd (o := .lst ((fxA ++ fxB ++ fxC ++ fxD ++ fxE ++ fxF).map V.str)) hr2')
      have all := (((((u1.trans u3).trans u5).trans u7).trans u9).trans u11)
      exact ⟨rfl, sc, a, l, r2, ms, z, fxA ++ fxB ++ fxC ++ fxD ++ fxE ++ fxF, rfl, hs1.but all, upd_same, rfl, fxF_ok⟩
end
end Vm
/-! a number's word; what the readers' answers are not -/
namespace Vm
open PySem PySem.Spec PyProof.Rows L2 TL
abbrev sNumW : Stmt := top 6
section
variable {P : Program} {w : World} {K : PySem.W.Frag} {mg : Str → Option Value} {base : Heap}
theorem scNumW : FnScope ["word", "digits"] ["word"] (defScope sNumW) := ⟨rfl, rfl, rfl, by decide +kernel, rfl, by decide +kernel, by decide +kernel⟩
theorem ok_numw {f : Addr} {fd : FuncData} (F : Fun K "is_number_word" "is_number_word" sNumW f fd) : FnOk P w K mg base CX0 1 f fd ["word"] spNumW := by
  refine F.ok scNumW (fun vs H Q E h => ?_) (fun cdv A outer s H vs Q E hr h => ?_)
  · obtain ⟨x, rfl, _⟩ := h
    rfl
  · obtain ⟨x, rfl, l, k⟩ := h
    have big : sizeLine > 100000 := by decide
    refine ⟨_, pss_cons (ps_set (i := 1) scNumW.nd rfl (Or.inl rfl) (pe_bm PySem.F.plainAttrs_str PySem.F.slot_str_removeprefix PySem.F.type_str_removeprefix mt_removeprefix (pv 0) (pa_cons pe_str pa_nil)))
      (pss_one (ps_ret (pe_or (pe_cmpR op_eq (pv 0) pe_str (nomark _)) (pe_one (pe_and (pe_bm0 PySem.F.plainAttrs_str PySem.F.slot_str_isascii PySem.F.type_str_isascii mt_isascii (pv 1))
        (pe_and (pe_bm0 PySem.F.plainAttrs_str PySem.F.slot_str_isdigit PySem.F.type_str_isdigit mt_isdigit (pv 1)) (pe_one (pe_not (pe_bm PySem.F.plainAttrs_str PySem.F.slot_str_startswith PySem.F.type_str_startswith mt_startswith (pv 1) (pa_cons pe_str pa_nil)))))))))), ?_⟩
    refine ⟨_, rfl, rfl, x, _, rfl, rfl, by omega, ?_⟩
    refine ⟨_, rfl, rfl, _, rfl, ?_⟩
    unfold numW at k
    refine ite_ (fun e => ?_) (fun e => ?_)
    · rw [decide_eq_true (V.str.inj e), Bool.true_or] at k
      exact k
    · rw [decide_eq_false (show ¬ x = ("0" : Str) from fun q => e (by rw [q])), Bool.false_or] at k
      refine ⟨_, rfl, rfl, _, rfl, rfl, True.intro, _, rfl, ?_⟩
      refine ite2 (fun c1 => ?_) (fun c1 => ?_)
      · rw [show Txt.isascii (digW x) = true from c1, Bool.true_and] at k
        refine ⟨_, rfl, rfl, _, rfl, rfl, True.intro, _, rfl, ?_⟩
        refine ite2 (fun c2 => ?_) (fun c2 => ?_)
        · rw [show Txt.isdigit (digW x) = true from c2, Bool.true_and] at k
          exact ⟨_, rfl, rfl, _, _, rfl, rfl, _, rfl, k⟩
        · rw [show Txt.isdigit (digW x) = false from Bool.eq_false_iff.mpr c2, Bool.false_and] at k
          exact k
      · rw [show Txt.isascii (digW x) = false from Bool.eq_false_iff.mpr c1, Bool.false_and] at k
        exact k
end
theorem use_non {t : List Str} : useφ t ≠ some .non := fun h => by
  unfold useφ at h
  cases e : useT t with
  | none => rw [e] at h; cases h
  | some u => rw [e] at h; cases h
theorem cond_non {t : List Str} : condφ t ≠ some .non := fun h => by
  unfold condφ at h
  cases e : condT t with
  | none => rw [e] at h; cases h
  | some u => rw [e] at h; cases h
theorem col_non {t : List Str} : colφ t ≠ some .non := fun h => by
  unfold colφ at h
  cases e : colT t with
  | none => rw [e] at h; cases h
  | some u => rw [e] at h; cases h
theorem bnd_non {t : List Str} : bndφ t ≠ some .non := fun h => by
  unfold bndφ at h
  cases e : bndT t with
  | none => rw [e] at h; cases h
  | some u => rw [e] at h; cases h
end Vm
namespace Vm
open PySem L2
/-! the written part, read by names -/
theorem both {a b : Bool} (h : (a && b) = true) : a = true ∧ b = true := Bool.and_eq_true_iff.mp h
abbrev aW (K : PySem.W.Frag) : Addr := He.ga K "Words"
abbrev aS (K : PySem.W.Frag) : Addr := He.ga K "Select"
abbrev aU (K : PySem.W.Frag) : Addr := He.ga K "Union"
abbrev aF (K : PySem.W.Frag) : Addr := He.ga K "First"
abbrev aG (K : PySem.W.Frag) : Addr := He.ga K "Groups"
abbrev aE (K : PySem.W.Frag) : Addr := He.ga K "InvalidText"
abbrev aQ (K : PySem.W.Frag) : Addr := He.ga K "InvalidQuestion"
def strL : List Value → List Str → Bool
  | [], [] => true
  | v :: vs, x :: xs => (match v with
    | .str y _ => decide (y = x)
    | _ => false) && strL vs xs
  | _, _ => false
theorem strL_ok : ∀ {vs : List Value} {xs : List Str}, strL vs xs = true → Vals (xs.map V.str) vs
  | [], [], _ => .nil
  | v :: vs, x :: xs, h => by
    obtain ⟨h1, h2⟩ := both h
    refine .cons ?_ (strL_ok h2)
    cases v with
    | str y t => exact ⟨t, by rw [of_decide_eq_true h1]⟩
    | _ => cases h1
  | [], _ :: _, h => by cases h
  | _ :: _, [], h => by cases h
/-- a tuple of texts in the written part -/
def strsB (K : PySem.W.Frag) (a : Addr) (xs : List Str) : Bool := match K.lookup a with
  | some ⟨.type c, _, .seq its _, _⟩ => decide (c = "tuple") && strL its.toList xs
  | _ => false
theorem strsB_ok {K : PySem.W.Frag} {a : Addr} {xs : List Str} (l : xs.length ≤ 100) (h : strsB K a xs = true) : ∀ H, SqT K H a (xs.map V.str) := by
  have big : sizeLine > 100 := by decide
  unfold strsB at h
  split at h
  · rename_i c dd its n sl lk
    obtain ⟨h1, h2⟩ := both h
    have e1 := of_decide_eq_true h1
    have r := strL_ok h2
    intro H
    refine .inr ⟨_, its, n, lk, by rw [e1], rfl, ?_, r⟩
    have z : (xs.map V.str).length = its.toList.length := r.length
    have z1 : (xs.map V.str).length = xs.length := List.length_map _
    have z2 : its.toList.length = its.size := Array.length_toList
    show its.size ≤ sizeLine
    omega
  · cases h
theorem na_all {K : PySem.W.Frag} {C : Addr} {ns : List Str} (h : (ns.all fun x => He.eqO (PySem.W.findIn K (.ref C) x) (some none)) = true) : ∀ x ∈ ns, NoAttr K C x := fun x m => He.eqO_ok (List.all_eq_true.mp h x m)

def dSel : He.DefD := { at_ := ("Select", some "__init__"), name := "__init__", qual := "Select.__init__", params := defArgs sSelI, body := defBody sSelI, scope := defScope sSelI, dfl := [.adr (He.dflAt ("Select", some "__init__") 0), .adr (He.dflAt ("Select", some "__init__") 1)] }
def dUni : He.DefD := { at_ := ("Union", some "__init__"), name := "__init__", qual := "Union.__init__", params := defArgs sUniI, body := defBody sUniI, scope := defScope sUniI, dfl := [] }
def dFst : He.DefD := { at_ := ("First", some "__init__"), name := "__init__", qual := "First.__init__", params := defArgs sFstI, body := defBody sFstI, scope := defScope sFstI, dfl := [.bl false] }
def dGrp : He.DefD := { at_ := ("Groups", some "__init__"), name := "__init__", qual := "Groups.__init__", params := defArgs sGrpI, body := defBody sGrpI, scope := defScope sGrpI, dfl := [.adr (He.dflAt ("Groups", some "__init__") 0), .adr (He.dflAt ("Groups", some "__init__") 1), .adr (He.dflAt ("Groups", some "__init__") 2), .non, .non, .adr (He.dflAt ("Groups", some "__init__") 5)] }
def chk (K : PySem.W.Frag) : Bool :=
  ((dSel.ok K) &&
  ((dUni.ok K) &&
  ((dFst.ok K) &&
  ((dGrp.ok K) &&
  (((["uses", "keep", "where", "without"] : List Str).all fun x => He.eqO (PySem.W.findIn K (.ref (aS K)) x) (some none)) &&
  ((decide (PySem.W.findIn K (.ref (aS K)) "__class__" = some (some (.builtin "object.__class__")))) &&
  ((decide (PySem.W.mroIn K (aS K) (.type "object") = some true)) &&
  (((["first", "second"] : List Str).all fun x => He.eqO (PySem.W.findIn K (.ref (aU K)) x) (some none)) &&
  ((decide (PySem.W.findIn K (.ref (aU K)) "__class__" = some (some (.builtin "object.__class__")))) &&
  ((decide (PySem.W.mroIn K (aU K) (.type "object") = some true)) &&
  (((["select", "by", "count", "falling"] : List Str).all fun x => He.eqO (PySem.W.findIn K (.ref (aF K)) x) (some none)) &&
  ((decide (PySem.W.findIn K (.ref (aF K)) "__class__" = some (some (.builtin "object.__class__")))) &&
  ((decide (PySem.W.mroIn K (aF K) (.type "object") = some true)) &&
  (((["uses", "by", "where", "without", "least", "greatest", "having"] : List Str).all fun x => He.eqO (PySem.W.findIn K (.ref (aG K)) x) (some none)) &&
  ((decide (PySem.W.findIn K (.ref (aG K)) "__class__" = some (some (.builtin "object.__class__")))) &&
  ((decide (PySem.W.mroIn K (aG K) (.type "object") = some true)) &&
  ((decide (PySem.W.specialIn K (.builtin "object.__class__") "__get__" = some (some (.builtin "getset_descriptor.__get__")))) &&
  ((decide (PySem.W.takesIn K (.builtin "object.__class__") = some true)) &&
  ((decide (PySem.W.kitOne K (.ref (aS K)) (.ref (aS K)) = some true)) &&
  ((decide (PySem.W.kitOne K (.ref (aU K)) (.ref (aS K)) = some false)) &&
  ((decide (PySem.W.kitOne K (.ref (aU K)) (.ref (aU K)) = some true)) &&
  ((decide (PySem.W.kitOne K (.ref (aF K)) (.ref (aS K)) = some false)) &&
  ((decide (PySem.W.kitOne K (.ref (aF K)) (.ref (aU K)) = some false)) &&
  ((decide (PySem.W.kitOne K (.ref (aF K)) (.ref (aF K)) = some true)) &&
  ((decide (PySem.W.kitOne K (.ref (aG K)) (.ref (aS K)) = some false)) &&
  ((decide (PySem.W.kitOne K (.ref (aG K)) (.ref (aU K)) = some false)) &&
  ((decide (PySem.W.kitOne K (.ref (aG K)) (.ref (aF K)) = some false)) &&
  ((decide (PySem.W.kitOne K (.ref (aG K)) (.ref (aG K)) = some true)) &&
  ((strsB K (He.ga K "_OPERATORS") ops4) &&
  ((strsB K (He.ga K "_BOUND_OPERATORS") ops2) &&
  ((strsB K (He.ga K "_MEASURES") meas) &&
  ((decide (PySem.W.findIn K (.ref (aE K)) "__getattribute__" = some (some (.builtin "BaseException.__getattribute__")))) &&
  ((decide (PySem.W.findIn K (.ref (aE K)) "__getattr__" = some none)) &&
  ((PySem.W.hasDictIn K (aE K)) &&
  ((decide (PySem.W.findIn K (.ref (aE K)) "__class__" = some (some (.builtin "object.__class__")))) &&
  ((decide (PySem.W.mroIn K (aE K) (.type "object") = some true)) &&
  ((decide (PySem.W.kitOne K (.ref (aE K)) (.ref (He.ga K "TurnError")) = some true)) &&
  ((decide (PySem.W.kitOne K (.ref (aE K)) (.type "ValueError") = some true)) &&
  (decide (PySem.W.kitOne K (.ref (aE K)) (.ref (aQ K)) = some false))))))))))))))))))))))))))))))))))))))))
def faL : List He.Fa := [.glo "_law_source", .glo "_law_draw", .glo "_law_pick", .glo "_law_entry", .glo "_law_listed", .glo "_law_where", .glo "_law_select_written", .glo "_law_written", .glo "_law_is_name", .glo "_law_is_column", .glo "_law_integer_in", .glo "_law_use_in", .glo "_law_condition_in", .glo "_law_column_in", .glo "_law_bound_in", .glo "_law_entries", .glo "_law_conditions", .glo "_law_lists", .glo "_law_select_in", .glo "_law_groups_in", .glo "_law_first_in", .glo "_law_read", .glo "_law_told_select", .glo "_law_told", .glo "_law_heard", .glo "_law_right", .glo "_law_bent", .glo "law", .glo "is_number_word", .glo "is_name", .glo "read_question", .glo "_read_body", .glo "_read_kept", .glo "_read_end", .glo "_read_groups", .glo "_read_uses", .glo "_read_use", .glo "_read_where", .glo "_read_condition", .glo "_read_operand", .glo "_read_bound", .glo "_read_columns", .glo "_read_column", .glo "_is_column", .glo "_read_integer", .glo "Words", .glo "Select", .glo "Union", .glo "First", .glo "Groups", .glo "InvalidText", .glo "TurnError", .glo "InvalidQuestion", .glo "_OPERATORS", .glo "_BOUND_OPERATORS", .glo "_MEASURES", .free "isinstance", .free "str", .free "len", .free "all", .free "int", .free "tuple", .free "list", .free "range", .free "repr", .free "ValueError", .int "_LONGEST_NAME" 8, .cls "Words", .cls "Select", .cls "Union", .cls "First", .cls "Groups", .noat "Words" "words", .noat "Words" "at", .meth "Words" "ended", .meth "Words" "upcoming", .meth "Words" "take", .meth "Words" "passes", .meth "Words" "expect", .meth "Words" "take_items", .mkr "Words", .mkr "Select", .mkr "Union", .mkr "First", .mkr "Groups", .exc "InvalidText", .exm "InvalidText" "InvalidText" true]
def fnL : List He.FnD := [⟨("_law_source", none), "_law_source", "_law_source", defArgs sSource, defBody sSource, defScope sSource⟩, ⟨("_law_draw", none), "_law_draw", "_law_draw", defArgs sDraw, defBody sDraw, defScope sDraw⟩, ⟨("_law_pick", none), "_law_pick", "_law_pick", defArgs sPick, defBody sPick, defScope sPick⟩, ⟨("_law_entry", none), "_law_entry", "_law_entry", defArgs sEntry, defBody sEntry, defScope sEntry⟩, ⟨("_law_listed", none), "_law_listed", "_law_listed", defArgs sListed, defBody sListed, defScope sListed⟩, ⟨("_law_where", none), "_law_where", "_law_where", defArgs sLWhere, defBody sLWhere, defScope sLWhere⟩, ⟨("_law_select_written", none), "_law_select_written", "_law_select_written", defArgs sSelW, defBody sSelW, defScope sSelW⟩, ⟨("_law_written", none), "_law_written", "_law_written", defArgs sWritten, defBody sWritten, defScope sWritten⟩, ⟨("_law_is_name", none), "_law_is_name", "_law_is_name", defArgs sLIsName, defBody sLIsName, defScope sLIsName⟩, ⟨("_law_is_column", none), "_law_is_column", "_law_is_column", defArgs sLIsCol, defBody sLIsCol, defScope sLIsCol⟩, ⟨("_law_integer_in", none), "_law_integer_in", "_law_integer_in", defArgs sLInt, defBody sLInt, defScope sLInt⟩, ⟨("_law_use_in", none), "_law_use_in", "_law_use_in", defArgs sLUse, defBody sLUse, defScope sLUse⟩, ⟨("_law_condition_in", none), "_law_condition_in", "_law_condition_in", defArgs sLCond, defBody sLCond, defScope sLCond⟩, ⟨("_law_column_in", none), "_law_column_in", "_law_column_in", defArgs sLCol, defBody sLCol, defScope sLCol⟩, ⟨("_law_bound_in", none), "_law_bound_in", "_law_bound_in", defArgs sLBnd, defBody sLBnd, defScope sLBnd⟩, ⟨("_law_entries", none), "_law_entries", "_law_entries", defArgs sEnts, defBody sEnts, defScope sEnts⟩, ⟨("_law_conditions", none), "_law_conditions", "_law_conditions", defArgs sConds, defBody sConds, defScope sConds⟩, ⟨("_law_lists", none), "_law_lists", "_law_lists", defArgs sLists, defBody sLists, defScope sLists⟩, ⟨("_law_select_in", none), "_law_select_in", "_law_select_in", defArgs sSelIn, defBody sSelIn, defScope sSelIn⟩, ⟨("_law_groups_in", none), "_law_groups_in", "_law_groups_in", defArgs sGrpIn, defBody sGrpIn, defScope sGrpIn⟩, ⟨("_law_first_in", none), "_law_first_in", "_law_first_in", defArgs sFstIn, defBody sFstIn, defScope sFstIn⟩, ⟨("_law_read", none), "_law_read", "_law_read", defArgs sLRead, defBody sLRead, defScope sLRead⟩, ⟨("_law_told_select", none), "_law_told_select", "_law_told_select", defArgs sTSel, defBody sTSel, defScope sTSel⟩, ⟨("_law_told", none), "_law_told", "_law_told", defArgs sTold, defBody sTold, defScope sTold⟩, ⟨("_law_heard", none), "_law_heard", "_law_heard", defArgs sLHeard, defBody sLHeard, defScope sLHeard⟩, ⟨("_law_right", none), "_law_right", "_law_right", defArgs sLRight, defBody sLRight, defScope sLRight⟩, ⟨("_law_bent", none), "_law_bent", "_law_bent", defArgs sBent, defBody sBent, defScope sBent⟩, ⟨("law", none), "law", "law", defArgs sLaw, defBody sLaw, defScope sLaw⟩, ⟨("is_number_word", none), "is_number_word", "is_number_word", defArgs sNumW, defBody sNumW, defScope sNumW⟩, ⟨("is_name", none), "is_name", "is_name", defArgs sIsName, defBody sIsName, defScope sIsName⟩, ⟨("read_question", none), "read_question", "read_question", defArgs sReadQ, defBody sReadQ, defScope sReadQ⟩, ⟨("_read_body", none), "_read_body", "_read_body", defArgs sBody, defBody sBody, defScope sBody⟩, ⟨("_read_kept", none), "_read_kept", "_read_kept", defArgs sKept, defBody sKept, defScope sKept⟩, ⟨("_read_end", none), "_read_end", "_read_end", defArgs sEnd, defBody sEnd, defScope sEnd⟩, ⟨("_read_groups", none), "_read_groups", "_read_groups", defArgs sGroups, defBody sGroups, defScope sGroups⟩, ⟨("_read_uses", none), "_read_uses", "_read_uses", defArgs sUses, defBody sUses, defScope sUses⟩, ⟨("_read_use", none), "_read_use", "_read_use", defArgs sUse, defBody sUse, defScope sUse⟩, ⟨("_read_where", none), "_read_where", "_read_where", defArgs sWhere, defBody sWhere, defScope sWhere⟩, ⟨("_read_condition", none), "_read_condition", "_read_condition", defArgs sCond, defBody sCond, defScope sCond⟩, ⟨("_read_operand", none), "_read_operand", "_read_operand", defArgs sOpd, defBody sOpd, defScope sOpd⟩, ⟨("_read_bound", none), "_read_bound", "_read_bound", defArgs sBnd, defBody sBnd, defScope sBnd⟩, ⟨("_read_columns", none), "_read_columns", "_read_columns", defArgs sCols, defBody sCols, defScope sCols⟩, ⟨("_read_column", none), "_read_column", "_read_column", defArgs sReadCol, defBody sReadCol, defScope sReadCol⟩, ⟨("_is_column", none), "_is_column", "_is_column", defArgs sIsCol, defBody sIsCol, defScope sIsCol⟩, ⟨("_read_integer", none), "_read_integer", "_read_integer", defArgs sReadInt, defBody sReadInt, defScope sReadInt⟩, ⟨("Words", some "ended"), "ended", "Words.ended", defArgs sEnded, defBody sEnded, defScope sEnded⟩, ⟨("Words", some "upcoming"), "upcoming", "Words.upcoming", defArgs sUpc, defBody sUpc, defScope sUpc⟩, ⟨("Words", some "take"), "take", "Words.take", defArgs sTake, defBody sTake, defScope sTake⟩, ⟨("Words", some "passes"), "passes", "Words.passes", defArgs sPasses, defBody sPasses, defScope sPasses⟩, ⟨("Words", some "expect"), "expect", "Words.expect", defArgs sExpect, defBody sExpect, defScope sExpect⟩, ⟨("Words", some "take_items"), "take_items", "Words.take_items", defArgs sItems, defBody sItems, defScope sItems⟩, ⟨("Words", some "__init__"), "__init__", "Words.__init__", defArgs sWInit, defBody sWInit, defScope sWInit⟩]
section
variable {K : PySem.W.Frag} {h : Heap} {mg : Str → Option Value} {fa : List He.Fa} {fn : List He.FnD}
theorem fun_of (c : He.SaysE fa fn K) (i : Nat) {p : Str × Option Str} {x q : Str} {st : Stmt} (e : fn[i]? = some ⟨p, x, q, defArgs st, defBody st, defScope st⟩) : ∃ fd, Fun K x q st (He.fAd K p) fd := by
  obtain ⟨oc, od, osl, kV, doc, pm, an, cdv, ct, l, cc⟩ := c.def_ i e
  refine ⟨_, fun_mk l cc ?_⟩
  show PySem.W.keepIn K (.ref (He.fAd K p)) = true
  unfold PySem.W.keepIn
  dsimp only at l
  simp only [l]
theorem _root_.L2.Fun.kb {x qual : Str} {st : Stmt} {f : Addr} {fd : FuncData} {ps ks : List Str} {g : List Value → List Value → List Value} {gV : List V → List V → List V} (F : Fun K x qual st f fd)
    (e : ∀ (kV doc pm : Value) (an : Option Addr) (cdv ct : Value) (us ws : List Value), (g us ws).length = ps.length → bindArgs (PySem.W.fnOf x qual (defArgs st) (defBody st) (defScope st) .none kV doc pm an cdv ct) ⟨us, ks.zip ws⟩ = pure (ps.zip (g us ws)))
    (rel : ∀ {vs : List V} {us : List Value} {zs : List V} {ws : List Value}, Vals vs us → Vals zs ws → Vals (gV vs zs) (g us ws)) : KBinds K fd ps ks g gV := ⟨fun s us ws _ hl => by
  obtain ⟨oc, od, kV, doc, pm, an, cdv, ct, osl, rfl, lk, hcd⟩ := F.ex
  exact .of_eq (e kV doc pm an cdv ct us ws hl), rel⟩
end

def hwT (us ws : List Value) : List Value := match us, ws with
  | [], [v] => [v]
  | _, _ => []
theorem hwT_rel {vs : List V} {us : List Value} {zs : List V} {ws : List Value} (a : Vals vs us) (b : Vals zs ws) : Vals (kwT vs zs) (hwT us ws) := by
  cases a with
  | nil =>
    cases b with
    | nil => exact .nil
    | cons r2 t2 =>
      cases t2 with
      | nil => exact .cons r2 .nil
      | cons r3 t3 => exact .nil
  | cons r t => cases b <;> exact .nil
section
variable {P : Program} {w : World} {K : PySem.W.Frag} {h : Heap} {mg : Str → Option Value}
theorem all_of (X : K.In h) (G : h.Ns mainGlobals mg) (c : He.SaysE faL fnL K) (z : chk K = true) (eSel : He.fnW K ("Select", some "__init__") = dSel.val) (eUni : He.fnW K ("Union", some "__init__") = dUni.val) (eFst : He.fnW K ("First", some "__init__") = dFst.val) (eGrp : He.fnW K ("Groups", some "__init__") = dGrp.val) {f : Addr} (hf : mg "law" = some (.ref f)) :
    ∃ fd : FuncData, (∀ (s : Shared) (v : Value), BindsTo s fd ⟨[v], []⟩ [("_law_script", v)]) ∧ ∀ base : Heap, K.In base → base.Ns mainGlobals mg → FnG P w K mg base CX0 11 f fd ["_law_script"] (spLaw K) := by
  obtain ⟨z1, y1⟩ := both z
  clear z
  obtain ⟨z2, y2⟩ := both y1
  clear y1
  obtain ⟨z3, y3⟩ := both y2
  clear y2
  obtain ⟨z4, y4⟩ := both y3
  clear y3
  obtain ⟨z5, y5⟩ := both y4
  clear y4
  obtain ⟨z6, y6⟩ := both y5
  clear y5
  obtain ⟨z7, y7⟩ := both y6
  clear y6
  obtain ⟨z8, y8⟩ := both y7
  clear y7
  obtain ⟨z9, y9⟩ := both y8
  clear y8
  obtain ⟨z10, y10⟩ := both y9
  clear y9
  obtain ⟨z11, y11⟩ := both y10
  clear y10
  obtain ⟨z12, y12⟩ := both y11
  clear y11
  obtain ⟨z13, y13⟩ := both y12
  clear y12
  obtain ⟨z14, y14⟩ := both y13
  clear y13
  obtain ⟨z15, y15⟩ := both y14
  clear y14
  obtain ⟨z16, y16⟩ := both y15
  clear y15
  obtain ⟨z17, y17⟩ := both y16
  clear y16
  obtain ⟨z18, y18⟩ := both y17
  clear y17
  obtain ⟨z19, y19⟩ := both y18
  clear y18
  obtain ⟨z20, y20⟩ := both y19
  clear y19
  obtain ⟨z21, y21⟩ := both y20
  clear y20
  obtain ⟨z22, y22⟩ := both y21
  clear y21
  obtain ⟨z23, y23⟩ := both y22
  clear y22
  obtain ⟨z24, y24⟩ := both y23
  clear y23
  obtain ⟨z25, y25⟩ := both y24
  clear y24
  obtain ⟨z26, y26⟩ := both y25
  clear y25
  obtain ⟨z27, y27⟩ := both y26
  clear y26
  obtain ⟨z28, y28⟩ := both y27
  clear y27
  obtain ⟨z29, y29⟩ := both y28
  clear y28
  obtain ⟨z30, y30⟩ := both y29
  clear y29
  obtain ⟨z31, y31⟩ := both y30
  clear y30
  obtain ⟨z32, y32⟩ := both y31
  clear y31
  obtain ⟨z33, y33⟩ := both y32
  clear y32
  obtain ⟨z34, y34⟩ := both y33
  clear y33
  obtain ⟨z35, y35⟩ := both y34
  clear y34
  obtain ⟨z36, y36⟩ := both y35
  clear y35
  obtain ⟨z37, y37⟩ := both y36
  clear y36
  obtain ⟨z38, y38⟩ := both y37
  clear y37
  obtain ⟨fdS, FS⟩ := fun_of c 0 (p := ("_law_source", none)) (x := "_law_source") (q := "_law_source") (st := sSource) rfl
  have cS : Calls K mg "_law_source" (He.ga K "_law_source") := ⟨He.glo_ok X G (c.fact 0 (f := .glo "_law_source") rfl), FS.kp⟩
  have bS : Binds K fdS ["_law_script"] [] := FS.binds fun _ _ _ _ _ _ us hl => match us, hl with | [_], _ => rfl
  obtain ⟨fdD, FD⟩ := fun_of c 1 (p := ("_law_draw", none)) (x := "_law_draw") (q := "_law_draw") (st := sDraw) rfl
  have cD : Calls K mg "_law_draw" (He.ga K "_law_draw") := ⟨He.glo_ok X G (c.fact 1 (f := .glo "_law_draw") rfl), FD.kp⟩
  have bD : Binds K fdD ["_law_source_here", "_law_many"] [] := FD.binds fun _ _ _ _ _ _ us hl => match us, hl with | [_, _], _ => rfl
  obtain ⟨fdP, FP⟩ := fun_of c 2 (p := ("_law_pick", none)) (x := "_law_pick") (q := "_law_pick") (st := sPick) rfl
  have cP : Calls K mg "_law_pick" (He.ga K "_law_pick") := ⟨He.glo_ok X G (c.fact 2 (f := .glo "_law_pick") rfl), FP.kp⟩
  have bP : Binds K fdP ["_law_source_here", "_law_items"] [] := FP.binds fun _ _ _ _ _ _ us hl => match us, hl with | [_, _], _ => rfl
  obtain ⟨fdEn, FEn⟩ := fun_of c 3 (p := ("_law_entry", none)) (x := "_law_entry") (q := "_law_entry") (st := sEntry) rfl
  have cEn : Calls K mg "_law_entry" (He.ga K "_law_entry") := ⟨He.glo_ok X G (c.fact 3 (f := .glo "_law_entry") rfl), FEn.kp⟩
  have bEn : Binds K fdEn ["_law_source_here", "_law_kind"] [] := FEn.binds fun _ _ _ _ _ _ us hl => match us, hl with | [_, _], _ => rfl
  obtain ⟨fdLi, FLi⟩ := fun_of c 4 (p := ("_law_listed", none)) (x := "_law_listed") (q := "_law_listed") (st := sListed) rfl
  have cLi : Calls K mg "_law_listed" (He.ga K "_law_listed") := ⟨He.glo_ok X G (c.fact 4 (f := .glo "_law_listed") rfl), FLi.kp⟩
  have bLi : Binds K fdLi ["_law_source_here", "_law_kind", "_law_most"] [] := FLi.binds fun _ _ _ _ _ _ us hl => match us, hl with | [_, _, _], _ => rfl
  obtain ⟨fdWh, FWh⟩ := fun_of c 5 (p := ("_law_where", none)) (x := "_law_where") (q := "_law_where") (st := sLWhere) rfl
  have cWh : Calls K mg "_law_where" (He.ga K "_law_where") := ⟨He.glo_ok X G (c.fact 5 (f := .glo "_law_where") rfl), FWh.kp⟩
  have bWh : Binds K fdWh ["_law_source_here"] [] := FWh.binds fun _ _ _ _ _ _ us hl => match us, hl with | [_], _ => rfl
  obtain ⟨fdSw, FSw⟩ := fun_of c 6 (p := ("_law_select_written", none)) (x := "_law_select_written") (q := "_law_select_written") (st := sSelW) rfl
  have cSw : Calls K mg "_law_select_written" (He.ga K "_law_select_written") := ⟨He.glo_ok X G (c.fact 6 (f := .glo "_law_select_written") rfl), FSw.kp⟩
  have bSw : Binds K fdSw ["_law_source_here"] [] := FSw.binds fun _ _ _ _ _ _ us hl => match us, hl with | [_], _ => rfl
  obtain ⟨fdWr, FWr⟩ := fun_of c 7 (p := ("_law_written", none)) (x := "_law_written") (q := "_law_written") (st := sWritten) rfl
  have cWr : Calls K mg "_law_written" (He.ga K "_law_written") := ⟨He.glo_ok X G (c.fact 7 (f := .glo "_law_written") rfl), FWr.kp⟩
  have bWr : Binds K fdWr ["_law_source_here"] [] := FWr.binds fun _ _ _ _ _ _ us hl => match us, hl with | [_], _ => rfl
  obtain ⟨fdLn, FLn⟩ := fun_of c 8 (p := ("_law_is_name", none)) (x := "_law_is_name") (q := "_law_is_name") (st := sLIsName) rfl
  have cLn : Calls K mg "_law_is_name" (He.ga K "_law_is_name") := ⟨He.glo_ok X G (c.fact 8 (f := .glo "_law_is_name") rfl), FLn.kp⟩
  have bLn : Binds K fdLn ["_law_it"] [] := FLn.binds fun _ _ _ _ _ _ us hl => match us, hl with | [_], _ => rfl
  obtain ⟨fdLc, FLc⟩ := fun_of c 9 (p := ("_law_is_column", none)) (x := "_law_is_column") (q := "_law_is_column") (st := sLIsCol) rfl
  have cLc : Calls K mg "_law_is_column" (He.ga K "_law_is_column") := ⟨He.glo_ok X G (c.fact 9 (f := .glo "_law_is_column") rfl), FLc.kp⟩
  have bLc : Binds K fdLc ["_law_it"] [] := FLc.binds fun _ _ _ _ _ _ us hl => match us, hl with | [_], _ => rfl
  obtain ⟨fdLt, FLt⟩ := fun_of c 10 (p := ("_law_integer_in", none)) (x := "_law_integer_in") (q := "_law_integer_in") (st := sLInt) rfl
  have cLt : Calls K mg "_law_integer_in" (He.ga K "_law_integer_in") := ⟨He.glo_ok X G (c.fact 10 (f := .glo "_law_integer_in") rfl), FLt.kp⟩
  have bLt : Binds K fdLt ["_law_word"] [] := FLt.binds fun _ _ _ _ _ _ us hl => match us, hl with | [_], _ => rfl
  obtain ⟨fdLu, FLu⟩ := fun_of c 11 (p := ("_law_use_in", none)) (x := "_law_use_in") (q := "_law_use_in") (st := sLUse) rfl
  have cLu : Calls K mg "_law_use_in" (He.ga K "_law_use_in") := ⟨He.glo_ok X G (c.fact 11 (f := .glo "_law_use_in") rfl), FLu.kp⟩
  have bLu : Binds K fdLu ["_law_entry_here"] [] := FLu.binds fun _ _ _ _ _ _ us hl => match us, hl with | [_], _ => rfl
  obtain ⟨fdLd, FLd⟩ := fun_of c 12 (p := ("_law_condition_in", none)) (x := "_law_condition_in") (q := "_law_condition_in") (st := sLCond) rfl
  have cLd : Calls K mg "_law_condition_in" (He.ga K "_law_condition_in") := ⟨He.glo_ok X G (c.fact 12 (f := .glo "_law_condition_in") rfl), FLd.kp⟩
  have bLd : Binds K fdLd ["_law_entry_here"] [] := FLd.binds fun _ _ _ _ _ _ us hl => match us, hl with | [_], _ => rfl
  obtain ⟨fdLl, FLl⟩ := fun_of c 13 (p := ("_law_column_in", none)) (x := "_law_column_in") (q := "_law_column_in") (st := sLCol) rfl
  have cLl : Calls K mg "_law_column_in" (He.ga K "_law_column_in") := ⟨He.glo_ok X G (c.fact 13 (f := .glo "_law_column_in") rfl), FLl.kp⟩
  have bLl : Binds K fdLl ["_law_entry_here"] [] := FLl.binds fun _ _ _ _ _ _ us hl => match us, hl with | [_], _ => rfl
  obtain ⟨fdLb, FLb⟩ := fun_of c 14 (p := ("_law_bound_in", none)) (x := "_law_bound_in") (q := "_law_bound_in") (st := sLBnd) rfl
  have cLb : Calls K mg "_law_bound_in" (He.ga K "_law_bound_in") := ⟨He.glo_ok X G (c.fact 14 (f := .glo "_law_bound_in") rfl), FLb.kp⟩
  have bLb : Binds K fdLb ["_law_entry_here"] [] := FLb.binds fun _ _ _ _ _ _ us hl => match us, hl with | [_], _ => rfl
  obtain ⟨fdEs, FEs⟩ := fun_of c 15 (p := ("_law_entries", none)) (x := "_law_entries") (q := "_law_entries") (st := sEnts) rfl
  have cEs : Calls K mg "_law_entries" (He.ga K "_law_entries") := ⟨He.glo_ok X G (c.fact 15 (f := .glo "_law_entries") rfl), FEs.kp⟩
  have bEs : Binds K fdEs ["_law_words", "_law_at", "_law_size", "_law_entry_in"] [] := FEs.binds fun _ _ _ _ _ _ us hl => match us, hl with | [_, _, _, _], _ => rfl
  obtain ⟨fdCs, FCs⟩ := fun_of c 16 (p := ("_law_conditions", none)) (x := "_law_conditions") (q := "_law_conditions") (st := sConds) rfl
  have cCs : Calls K mg "_law_conditions" (He.ga K "_law_conditions") := ⟨He.glo_ok X G (c.fact 16 (f := .glo "_law_conditions") rfl), FCs.kp⟩
  have bCs : Binds K fdCs ["_law_words", "_law_at"] [] := FCs.binds fun _ _ _ _ _ _ us hl => match us, hl with | [_, _], _ => rfl
  obtain ⟨fdLs, FLs⟩ := fun_of c 17 (p := ("_law_lists", none)) (x := "_law_lists") (q := "_law_lists") (st := sLists) rfl
  have cLs : Calls K mg "_law_lists" (He.ga K "_law_lists") := ⟨He.glo_ok X G (c.fact 17 (f := .glo "_law_lists") rfl), FLs.kp⟩
  have bLs : Binds K fdLs ["_law_words", "_law_at"] [] := FLs.binds fun _ _ _ _ _ _ us hl => match us, hl with | [_, _], _ => rfl
  obtain ⟨fdSi, FSi⟩ := fun_of c 18 (p := ("_law_select_in", none)) (x := "_law_select_in") (q := "_law_select_in") (st := sSelIn) rfl
  have cSi : Calls K mg "_law_select_in" (He.ga K "_law_select_in") := ⟨He.glo_ok X G (c.fact 18 (f := .glo "_law_select_in") rfl), FSi.kp⟩
  have bSi : Binds K fdSi ["_law_words", "_law_at"] [] := FSi.binds fun _ _ _ _ _ _ us hl => match us, hl with | [_, _], _ => rfl
  obtain ⟨fdGi, FGi⟩ := fun_of c 19 (p := ("_law_groups_in", none)) (x := "_law_groups_in") (q := "_law_groups_in") (st := sGrpIn) rfl
  have cGi : Calls K mg "_law_groups_in" (He.ga K "_law_groups_in") := ⟨He.glo_ok X G (c.fact 19 (f := .glo "_law_groups_in") rfl), FGi.kp⟩
  have bGi : Binds K fdGi ["_law_words", "_law_some"] [] := FGi.binds fun _ _ _ _ _ _ us hl => match us, hl with | [_, _], _ => rfl
  obtain ⟨fdFi, FFi⟩ := fun_of c 20 (p := ("_law_first_in", none)) (x := "_law_first_in") (q := "_law_first_in") (st := sFstIn) rfl
  have cFi : Calls K mg "_law_first_in" (He.ga K "_law_first_in") := ⟨He.glo_ok X G (c.fact 20 (f := .glo "_law_first_in") rfl), FFi.kp⟩
  have bFi : Binds K fdFi ["_law_words", "_law_select", "_law_at"] [] := FFi.binds fun _ _ _ _ _ _ us hl => match us, hl with | [_, _, _], _ => rfl
  obtain ⟨fdRd, FRd⟩ := fun_of c 21 (p := ("_law_read", none)) (x := "_law_read") (q := "_law_read") (st := sLRead) rfl
  have cRd : Calls K mg "_law_read" (He.ga K "_law_read") := ⟨He.glo_ok X G (c.fact 21 (f := .glo "_law_read") rfl), FRd.kp⟩
  have bRd : Binds K fdRd ["_law_it"] [] := FRd.binds fun _ _ _ _ _ _ us hl => match us, hl with | [_], _ => rfl
  obtain ⟨fdTs, FTs⟩ := fun_of c 22 (p := ("_law_told_select", none)) (x := "_law_told_select") (q := "_law_told_select") (st := sTSel) rfl
  have cTs : Calls K mg "_law_told_select" (He.ga K "_law_told_select") := ⟨He.glo_ok X G (c.fact 22 (f := .glo "_law_told_select") rfl), FTs.kp⟩
  have bTs : Binds K fdTs ["_law_question"] [] := FTs.binds fun _ _ _ _ _ _ us hl => match us, hl with | [_], _ => rfl
  obtain ⟨fdTd, FTd⟩ := fun_of c 23 (p := ("_law_told", none)) (x := "_law_told") (q := "_law_told") (st := sTold) rfl
  have cTd : Calls K mg "_law_told" (He.ga K "_law_told") := ⟨He.glo_ok X G (c.fact 23 (f := .glo "_law_told") rfl), FTd.kp⟩
  have bTd : Binds K fdTd ["_law_question"] [] := FTd.binds fun _ _ _ _ _ _ us hl => match us, hl with | [_], _ => rfl
  obtain ⟨fdHe, FHe⟩ := fun_of c 24 (p := ("_law_heard", none)) (x := "_law_heard") (q := "_law_heard") (st := sLHeard) rfl
  have cHe : Calls K mg "_law_heard" (He.ga K "_law_heard") := ⟨He.glo_ok X G (c.fact 24 (f := .glo "_law_heard") rfl), FHe.kp⟩
  have bHe : Binds K fdHe ["_law_it", "_law_by_name"] [] := FHe.binds fun _ _ _ _ _ _ us hl => match us, hl with | [_, _], _ => rfl
  obtain ⟨fdRt, FRt⟩ := fun_of c 25 (p := ("_law_right", none)) (x := "_law_right") (q := "_law_right") (st := sLRight) rfl
  have cRt : Calls K mg "_law_right" (He.ga K "_law_right") := ⟨He.glo_ok X G (c.fact 25 (f := .glo "_law_right") rfl), FRt.kp⟩
  have bRt : Binds K fdRt ["_law_it"] [] := FRt.binds fun _ _ _ _ _ _ us hl => match us, hl with | [_], _ => rfl
  obtain ⟨fdBe, FBe⟩ := fun_of c 26 (p := ("_law_bent", none)) (x := "_law_bent") (q := "_law_bent") (st := sBent) rfl
  have cBe : Calls K mg "_law_bent" (He.ga K "_law_bent") := ⟨He.glo_ok X G (c.fact 26 (f := .glo "_law_bent") rfl), FBe.kp⟩
  have bBe : Binds K fdBe ["_law_source_here", "_law_it"] [] := FBe.binds fun _ _ _ _ _ _ us hl => match us, hl with | [_, _], _ => rfl
  obtain ⟨fdZ, FZ⟩ := fun_of c 27 (p := ("law", none)) (x := "law") (q := "law") (st := sLaw) rfl
  have cZ : Calls K mg "law" (He.ga K "law") := ⟨He.glo_ok X G (c.fact 27 (f := .glo "law") rfl), FZ.kp⟩
  have bZ : Binds K fdZ ["_law_script"] [] := FZ.binds fun _ _ _ _ _ _ us hl => match us, hl with | [_], _ => rfl
  obtain ⟨fdNw, FNw⟩ := fun_of c 28 (p := ("is_number_word", none)) (x := "is_number_word") (q := "is_number_word") (st := sNumW) rfl
  have cNw : Calls K mg "is_number_word" (He.ga K "is_number_word") := ⟨He.glo_ok X G (c.fact 28 (f := .glo "is_number_word") rfl), FNw.kp⟩
  have bNw : Binds K fdNw ["word"] [] := FNw.binds fun _ _ _ _ _ _ us hl => match us, hl with | [_], _ => rfl
  obtain ⟨fdNm, FNm⟩ := fun_of c 29 (p := ("is_name", none)) (x := "is_name") (q := "is_name") (st := sIsName) rfl
  have cNm : Calls K mg "is_name" (He.ga K "is_name") := ⟨He.glo_ok X G (c.fact 29 (f := .glo "is_name") rfl), FNm.kp⟩
  have bNm : Binds K fdNm ["thing"] [] := FNm.binds fun _ _ _ _ _ _ us hl => match us, hl with | [_], _ => rfl
  obtain ⟨fdRq, FRq⟩ := fun_of c 30 (p := ("read_question", none)) (x := "read_question") (q := "read_question") (st := sReadQ) rfl
  have cRq : Calls K mg "read_question" (He.ga K "read_question") := ⟨He.glo_ok X G (c.fact 30 (f := .glo "read_question") rfl), FRq.kp⟩
  have bRq : Binds K fdRq ["text"] [] := FRq.binds fun _ _ _ _ _ _ us hl => match us, hl with | [_], _ => rfl
  obtain ⟨fdBd, FBd⟩ := fun_of c 31 (p := ("_read_body", none)) (x := "_read_body") (q := "_read_body") (st := sBody) rfl
  have cBd : Calls K mg "_read_body" (He.ga K "_read_body") := ⟨He.glo_ok X G (c.fact 31 (f := .glo "_read_body") rfl), FBd.kp⟩
  have bBd : Binds K fdBd ["words"] [] := FBd.binds fun _ _ _ _ _ _ us hl => match us, hl with | [_], _ => rfl
  obtain ⟨fdKp, FKp⟩ := fun_of c 32 (p := ("_read_kept", none)) (x := "_read_kept") (q := "_read_kept") (st := sKept) rfl
  have cKp : Calls K mg "_read_kept" (He.ga K "_read_kept") := ⟨He.glo_ok X G (c.fact 32 (f := .glo "_read_kept") rfl), FKp.kp⟩
  have bKp : Binds K fdKp ["words", "uses", "where", "without"] [] := FKp.binds fun _ _ _ _ _ _ us hl => match us, hl with | [_, _, _, _], _ => rfl
  obtain ⟨fdEd, FEd⟩ := fun_of c 33 (p := ("_read_end", none)) (x := "_read_end") (q := "_read_end") (st := sEnd) rfl
  have cEd : Calls K mg "_read_end" (He.ga K "_read_end") := ⟨He.glo_ok X G (c.fact 33 (f := .glo "_read_end") rfl), FEd.kp⟩
  have bEd : Binds K fdEd ["words", "select"] [] := FEd.binds fun _ _ _ _ _ _ us hl => match us, hl with | [_, _], _ => rfl
  obtain ⟨fdGr, FGr⟩ := fun_of c 34 (p := ("_read_groups", none)) (x := "_read_groups") (q := "_read_groups") (st := sGroups) rfl
  have cGr : Calls K mg "_read_groups" (He.ga K "_read_groups") := ⟨He.glo_ok X G (c.fact 34 (f := .glo "_read_groups") rfl), FGr.kp⟩
  have bGr : Binds K fdGr ["words", "uses", "where", "without"] [] := FGr.binds fun _ _ _ _ _ _ us hl => match us, hl with | [_, _, _, _], _ => rfl
  obtain ⟨fdUs, FUs⟩ := fun_of c 35 (p := ("_read_uses", none)) (x := "_read_uses") (q := "_read_uses") (st := sUses) rfl
  have cUs : Calls K mg "_read_uses" (He.ga K "_read_uses") := ⟨He.glo_ok X G (c.fact 35 (f := .glo "_read_uses") rfl), FUs.kp⟩
  have bUs : Binds K fdUs ["words"] [] := FUs.binds fun _ _ _ _ _ _ us hl => match us, hl with | [_], _ => rfl
  obtain ⟨fdUe, FUe⟩ := fun_of c 36 (p := ("_read_use", none)) (x := "_read_use") (q := "_read_use") (st := sUse) rfl
  have cUe : Calls K mg "_read_use" (He.ga K "_read_use") := ⟨He.glo_ok X G (c.fact 36 (f := .glo "_read_use") rfl), FUe.kp⟩
  have bUe : Binds K fdUe ["item"] [] := FUe.binds fun _ _ _ _ _ _ us hl => match us, hl with | [_], _ => rfl
  obtain ⟨fdRe, FRe⟩ := fun_of c 37 (p := ("_read_where", none)) (x := "_read_where") (q := "_read_where") (st := sWhere) rfl
  have cRe : Calls K mg "_read_where" (He.ga K "_read_where") := ⟨He.glo_ok X G (c.fact 37 (f := .glo "_read_where") rfl), FRe.kp⟩
  have bRe : Binds K fdRe ["words"] [] := FRe.binds fun _ _ _ _ _ _ us hl => match us, hl with | [_], _ => rfl
  obtain ⟨fdCo, FCo⟩ := fun_of c 38 (p := ("_read_condition", none)) (x := "_read_condition") (q := "_read_condition") (st := sCond) rfl
  have cCo : Calls K mg "_read_condition" (He.ga K "_read_condition") := ⟨He.glo_ok X G (c.fact 38 (f := .glo "_read_condition") rfl), FCo.kp⟩
  have bCo : Binds K fdCo ["item"] [] := FCo.binds fun _ _ _ _ _ _ us hl => match us, hl with | [_], _ => rfl
  obtain ⟨fdOp, FOp⟩ := fun_of c 39 (p := ("_read_operand", none)) (x := "_read_operand") (q := "_read_operand") (st := sOpd) rfl
  have cOp : Calls K mg "_read_operand" (He.ga K "_read_operand") := ⟨He.glo_ok X G (c.fact 39 (f := .glo "_read_operand") rfl), FOp.kp⟩
  have bOp : Binds K fdOp ["word"] [] := FOp.binds fun _ _ _ _ _ _ us hl => match us, hl with | [_], _ => rfl
  obtain ⟨fdBn, FBn⟩ := fun_of c 40 (p := ("_read_bound", none)) (x := "_read_bound") (q := "_read_bound") (st := sBnd) rfl
  have cBn : Calls K mg "_read_bound" (He.ga K "_read_bound") := ⟨He.glo_ok X G (c.fact 40 (f := .glo "_read_bound") rfl), FBn.kp⟩
  have bBn : Binds K fdBn ["item"] [] := FBn.binds fun _ _ _ _ _ _ us hl => match us, hl with | [_], _ => rfl
  obtain ⟨fdCl, FCl⟩ := fun_of c 41 (p := ("_read_columns", none)) (x := "_read_columns") (q := "_read_columns") (st := sCols) rfl
  have cCl : Calls K mg "_read_columns" (He.ga K "_read_columns") := ⟨He.glo_ok X G (c.fact 41 (f := .glo "_read_columns") rfl), FCl.kp⟩
  have bCl : Binds K fdCl ["words"] [] := FCl.binds fun _ _ _ _ _ _ us hl => match us, hl with | [_], _ => rfl
  obtain ⟨fdRc, FRc⟩ := fun_of c 42 (p := ("_read_column", none)) (x := "_read_column") (q := "_read_column") (st := sReadCol) rfl
  have cRc : Calls K mg "_read_column" (He.ga K "_read_column") := ⟨He.glo_ok X G (c.fact 42 (f := .glo "_read_column") rfl), FRc.kp⟩
  have bRc : Binds K fdRc ["word"] [] := FRc.binds fun _ _ _ _ _ _ us hl => match us, hl with | [_], _ => rfl
  obtain ⟨fdIc, FIc⟩ := fun_of c 43 (p := ("_is_column", none)) (x := "_is_column") (q := "_is_column") (st := sIsCol) rfl
  have cIc : Calls K mg "_is_column" (He.ga K "_is_column") := ⟨He.glo_ok X G (c.fact 43 (f := .glo "_is_column") rfl), FIc.kp⟩
  have bIc : Binds K fdIc ["word"] [] := FIc.binds fun _ _ _ _ _ _ us hl => match us, hl with | [_], _ => rfl
  obtain ⟨fdRi, FRi⟩ := fun_of c 44 (p := ("_read_integer", none)) (x := "_read_integer") (q := "_read_integer") (st := sReadInt) rfl
  have cRi : Calls K mg "_read_integer" (He.ga K "_read_integer") := ⟨He.glo_ok X G (c.fact 44 (f := .glo "_read_integer") rfl), FRi.kp⟩
  have bRi : Binds K fdRi ["word"] [] := FRi.binds fun _ _ _ _ _ _ us hl => match us, hl with | [_], _ => rfl
  obtain ⟨fdWe, FWe⟩ := fun_of c 45 (p := ("Words", some "ended")) (x := "ended") (q := "Words.ended") (st := sEnded) rfl
  have bWe : Binds K fdWe ["self"] [] := FWe.binds fun _ _ _ _ _ _ us hl => match us, hl with | [_], _ => rfl
  have mWe : Meth K (He.ga K "Words") "ended" (He.ma K (He.ga K "Words") "ended") := He.meth_ok (c.fact 74 (f := .meth "Words" "ended") rfl)
  obtain ⟨fdWu, FWu⟩ := fun_of c 46 (p := ("Words", some "upcoming")) (x := "upcoming") (q := "Words.upcoming") (st := sUpc) rfl
  have bWu : Binds K fdWu ["self"] [] := FWu.binds fun _ _ _ _ _ _ us hl => match us, hl with | [_], _ => rfl
  have mWu : Meth K (He.ga K "Words") "upcoming" (He.ma K (He.ga K "Words") "upcoming") := He.meth_ok (c.fact 75 (f := .meth "Words" "upcoming") rfl)
  obtain ⟨fdWt, FWt⟩ := fun_of c 47 (p := ("Words", some "take")) (x := "take") (q := "Words.take") (st := sTake) rfl
  have bWt : Binds K fdWt ["self", "count"] [] := FWt.binds fun _ _ _ _ _ _ us hl => match us, hl with | [_, _], _ => rfl
  have mWt : Meth K (He.ga K "Words") "take" (He.ma K (He.ga K "Words") "take") := He.meth_ok (c.fact 76 (f := .meth "Words" "take") rfl)
  obtain ⟨fdWp, FWp⟩ := fun_of c 48 (p := ("Words", some "passes")) (x := "passes") (q := "Words.passes") (st := sPasses) rfl
  have bWp : Binds K fdWp ["self", "word"] [] := FWp.binds fun _ _ _ _ _ _ us hl => match us, hl with | [_, _], _ => rfl
  have mWp : Meth K (He.ga K "Words") "passes" (He.ma K (He.ga K "Words") "passes") := He.meth_ok (c.fact 77 (f := .meth "Words" "passes") rfl)
  obtain ⟨fdWx, FWx⟩ := fun_of c 49 (p := ("Words", some "expect")) (x := "expect") (q := "Words.expect") (st := sExpect) rfl
  have bWx : Binds K fdWx ["self", "word"] [] := FWx.binds fun _ _ _ _ _ _ us hl => match us, hl with | [_, _], _ => rfl
  have mWx : Meth K (He.ga K "Words") "expect" (He.ma K (He.ga K "Words") "expect") := He.meth_ok (c.fact 78 (f := .meth "Words" "expect") rfl)
  obtain ⟨fdWi, FWi⟩ := fun_of c 50 (p := ("Words", some "take_items")) (x := "take_items") (q := "Words.take_items") (st := sItems) rfl
  have bWi : Binds K fdWi ["self", "size"] [] := FWi.binds fun _ _ _ _ _ _ us hl => match us, hl with | [_, _], _ => rfl
  have mWi : Meth K (He.ga K "Words") "take_items" (He.ma K (He.ga K "Words") "take_items") := He.meth_ok (c.fact 79 (f := .meth "Words" "take_items") rfl)
  obtain ⟨fdWo, FWo⟩ := fun_of c 51 (p := ("Words", some "__init__")) (x := "__init__") (q := "Words.__init__") (st := sWInit) rfl
  have bWo : Binds K fdWo ["self", "words"] [] := FWo.binds fun _ _ _ _ _ _ us hl => match us, hl with | [_, _], _ => rfl
  obtain ⟨fdSel, FSel⟩ := He.DefD.funD (d := dSel) eSel z1
  obtain ⟨dsSel, vSel, bSel⟩ := FSel.binds1 (ps := ["self", "uses", "keep", "where", "without"]) 5 2 (by simp [dSel, He.DefD.dvs]) rfl fun T kV doc pm an cdv ct us its l1 l2 => match us, its, l1, l2 with | [_, _, _, _, _], [_, _], _, _ => ⟨_, rfl, rfl⟩
  cases vSel
  have MSel := He.mkr_ok (c.fact 81 (f := .mkr "Select") rfl)
  obtain ⟨fdUni, FUni⟩ := He.DefD.funD (d := dUni) eUni z2
  have bUni : Binds K fdUni ["self", "first", "second"] [] := FUni.bindsN fun _ _ _ _ _ _ us hl => match us, hl with | [_, _, _], _ => rfl
  have MUni := He.mkr_ok (c.fact 82 (f := .mkr "Union") rfl)
  obtain ⟨fdFst, FFst⟩ := He.DefD.funD (d := dFst) eFst z3
  obtain ⟨dsFst, vFst, bFst⟩ := FFst.binds1 (ps := ["self", "select", "by", "count", "falling"]) 5 1 (by simp [dFst, He.DefD.dvs]) rfl fun T kV doc pm an cdv ct us its l1 l2 => match us, its, l1, l2 with | [_, _, _, _, _], [_], _, _ => ⟨_, rfl, rfl⟩
  cases vFst
  have MFst := He.mkr_ok (c.fact 83 (f := .mkr "First") rfl)
  obtain ⟨fdGrp, FGrp⟩ := He.DefD.funD (d := dGrp) eGrp z4
  obtain ⟨dsGrp, vGrp, bGrp⟩ := FGrp.binds1 (ps := ["self", "uses", "by", "where", "without", "least", "greatest", "having"]) 8 6 (by simp [dGrp, He.DefD.dvs]) rfl fun T kV doc pm an cdv ct us its l1 l2 => match us, its, l1, l2 with | [_, _, _, _, _, _, _, _], [_, _, _, _, _, _], _, _ => ⟨_, rfl, rfl⟩
  cases vGrp
  have MGrp := He.mkr_ok (c.fact 84 (f := .mkr "Groups") rfl)
  have MWo := He.mkr_ok (c.fact 80 (f := .mkr "Words") rfl)
  have fr : ∀ {x : Str}, He.Fa.ok K (.free x) = true → mg x = none := fun c => He.free_ok X G c
  have TA : TxtA K mg := ⟨fr (c.fact 62 (f := .free "list") rfl), fr (c.fact 58 (f := .free "len") rfl), fr (c.fact 63 (f := .free "range") rfl), fr (c.fact 61 (f := .free "tuple") rfl)⟩
  have TL : TxtL K mg (He.ga K "_law_draw") (He.ga K "_law_pick") := ⟨TA, cD.g, cD.k, cP.g, cP.k⟩
  have N : TxtN K mg := ⟨fr (c.fact 56 (f := .free "isinstance") rfl), fr (c.fact 57 (f := .free "str") rfl), fr (c.fact 58 (f := .free "len") rfl), fr (c.fact 59 (f := .free "all") rfl), fr (c.fact 60 (f := .free "int") rfl), fr (c.fact 61 (f := .free "tuple") rfl), He.int_ok X G (c.fact 66 (f := .int "_LONGEST_NAME" 8) rfl)⟩
  obtain ⟨e1, e2, e3, e4⟩ := He.exc_ok (c.fact 85 (f := .exc "InvalidText") rfl)
  have gW := He.glo_ok X G (c.fact 45 (f := .glo "Words") rfl)
  have gS := He.glo_ok X G (c.fact 46 (f := .glo "Select") rfl)
  have gU := He.glo_ok X G (c.fact 47 (f := .glo "Union") rfl)
  have gF := He.glo_ok X G (c.fact 48 (f := .glo "First") rfl)
  have gG := He.glo_ok X G (c.fact 49 (f := .glo "Groups") rfl)
  have gE := He.glo_ok X G (c.fact 50 (f := .glo "InvalidText") rfl)
  have gTE := He.glo_ok X G (c.fact 51 (f := .glo "TurnError") rfl)
  have gQ := He.glo_ok X G (c.fact 52 (f := .glo "InvalidQuestion") rfl)
  have gO := He.glo_ok X G (c.fact 53 (f := .glo "_OPERATORS") rfl)
  have gB := He.glo_ok X G (c.fact 54 (f := .glo "_BOUND_OPERATORS") rfl)
  have gM := He.glo_ok X G (c.fact 55 (f := .glo "_MEASURES") rfl)
  have WD : TxtWd K mg (aW K) (He.ma K (aW K) "ended") (He.ma K (aW K) "upcoming") (He.ma K (aW K) "take") (He.ma K (aW K) "passes") (He.ma K (aW K) "expect") (He.ma K (aW K) "take_items") := ⟨He.cls_ok (c.fact 67 (f := .cls "Words") rfl), He.noat_ok (c.fact 72 (f := .noat "Words" "words") rfl), He.noat_ok (c.fact 73 (f := .noat "Words" "at") rfl), gW, mWe, mWu, mWt, mWp, mWx, mWi⟩
  have TG : TxtG K mg (He.ga K "_OPERATORS") (He.ga K "_BOUND_OPERATORS") (He.ga K "_MEASURES") := ⟨gO, strsB_ok (by decide) z29, gB, strsB_ok (by decide) z30, gM, strsB_ok (by decide) z31⟩
  have ZX : TxtX K mg (aE K) := ⟨gE, e2, e1, e3, e4⟩
  have ISel : TxtI K (aS K) := ⟨He.cls_ok (c.fact 68 (f := .cls "Select") rfl), (of_decide_eq_true z6), (of_decide_eq_true z17), (of_decide_eq_true z18), (of_decide_eq_true z7)⟩
  have CSel : TxtC K (aS K) ["uses", "keep", "where", "without"] := ⟨He.cls_ok (c.fact 68 (f := .cls "Select") rfl), na_all z5⟩
  have IUni : TxtI K (aU K) := ⟨He.cls_ok (c.fact 69 (f := .cls "Union") rfl), (of_decide_eq_true z9), (of_decide_eq_true z17), (of_decide_eq_true z18), (of_decide_eq_true z10)⟩
  have CUni : TxtC K (aU K) ["first", "second"] := ⟨He.cls_ok (c.fact 69 (f := .cls "Union") rfl), na_all z8⟩
  have IFst : TxtI K (aF K) := ⟨He.cls_ok (c.fact 70 (f := .cls "First") rfl), (of_decide_eq_true z12), (of_decide_eq_true z17), (of_decide_eq_true z18), (of_decide_eq_true z13)⟩
  have CFst : TxtC K (aF K) ["select", "by", "count", "falling"] := ⟨He.cls_ok (c.fact 70 (f := .cls "First") rfl), na_all z11⟩
  have IGrp : TxtI K (aG K) := ⟨He.cls_ok (c.fact 71 (f := .cls "Groups") rfl), (of_decide_eq_true z15), (of_decide_eq_true z17), (of_decide_eq_true z18), (of_decide_eq_true z16)⟩
  have CGrp : TxtC K (aG K) ["uses", "by", "where", "without", "least", "greatest", "having"] := ⟨He.cls_ok (c.fact 71 (f := .cls "Groups") rfl), na_all z14⟩
  have TQ : TxtQ K mg (aS K) (aU K) (aF K) (aG K) := ⟨gS, gU, gF, gG, ISel, IUni, IFst, IGrp, CSel, CUni, CFst, CGrp, (of_decide_eq_true z19), (of_decide_eq_true z20), (of_decide_eq_true z21), (of_decide_eq_true z22), (of_decide_eq_true z23), (of_decide_eq_true z24), (of_decide_eq_true z25), (of_decide_eq_true z26), (of_decide_eq_true z27), (of_decide_eq_true z28)⟩
  have emE : PySem.W.exmOne K (.ref (aE K)) (.ref (aE K)) = some true := He.exm_ok (c.fact 86 (f := .exm "InvalidText" "InvalidText" true) rfl)
  have eE : ExcC K (aE K) := ⟨(of_decide_eq_true z32), (of_decide_eq_true z33), e3, z34, (of_decide_eq_true z35), (of_decide_eq_true z17), (of_decide_eq_true z18), (of_decide_eq_true z36)⟩
  have TY : TxtY9 K mg (aE K) (aQ K) (He.ga K "TurnError") := ⟨gTE, fr (c.fact 65 (f := .free "ValueError") rfl), gQ, eE, emE, (of_decide_eq_true z37), (of_decide_eq_true z38), (of_decide_eq_true y38)⟩
  have kRq : KBinds K fdRq ["text"] ["text"] hwT kwT := FRq.kb (fun _ _ _ _ _ _ us ws hl => match us, ws, hl with | [], [_], _ => rfl) hwT_rel
  have rp := fr (c.fact 64 (f := .free "repr") rfl)
  have it := fr (c.fact 60 (f := .free "int") rfl)
  have st := fr (c.fact 57 (f := .free "str") rfl)
  have isi := fr (c.fact 56 (f := .free "isinstance") rfl)
  have le := fr (c.fact 58 (f := .free "len") rfl)
  have hz : f = He.ga K "law" := by
    have e := hf.symm.trans cZ.g
    injection e with e
    injection e
  subst hz
  refine ⟨fdZ, fun s v => ?_, fun base kb nb => ?_⟩
  · obtain ⟨oc, od, kV, doc, pm, an, cdv, ct, osl, rfl, lk, hcd⟩ := FZ.ex
    exact .of_eq rfl
  have GS := ok_source (P := P) (w := w) (base := base) FS TA
  have GD := ok_draw (P := P) (w := w) (mg := mg) (base := base) FD
  have GP := ok_pick FP TL GD bD
  have GNw := ok_numw (P := P) (w := w) (mg := mg) (base := base) FNw
  have GNm := ok_isname (P := P) (w := w) (base := base) FNm N
  have GIc := ok_iscol FIc N cNm GNm bNm
  have GRc := ok_readcol FRc ZX cIc GIc bIc
  have GRi := ok_readint FRi N ZX cNw GNw bNw
  have GOp := ok_opd FOp cNm GNm bNm cIc GIc bIc cRi GRi bRi
  have GUe := ok_use FUe ZX cNm GNm bNm
  have GCo := ok_cond FCo ZX TG cRc GRc bRc cOp GOp bOp
  have GBn := ok_bnd FBn ZX TG cRi GRi bRi
  have GWo := ok_winit (P := P) (w := w) (base := base) FWo WD
  have GWe := ok_ended (P := P) (w := w) (base := base) FWe WD N
  have GWu := ok_upc FWu WD GWe bWe
  have GWt := ok_take (P := P) (w := w) (base := base) FWt WD N ZX
  have GWp := ok_passes FWp WD GWu bWu
  have GWx := ok_expect FWx WD ZX GWp bWp
  have GWi := ok_items FWi WD GWt bWt
  have GUs := ok_uses FUs N WD GWi bWi cUe GUe bUe
  have GRe := ok_where FRe N WD GWp bWp GWi bWi cCo GCo bCo
  have GCl := ok_cols FCl N WD GWi bWi cRc GRc bRc
  have GSel := ok_seli (P := P) (w := w) (mg := mg) (base := base) FSel CSel
  have GUni := ok_unii (P := P) (w := w) (mg := mg) (base := base) FUni CUni
  have GFst := ok_fsti (P := P) (w := w) (mg := mg) (base := base) FFst CFst
  have GGrp := ok_grpi (P := P) (w := w) (mg := mg) (base := base) FGrp CGrp
  have GBd := ok_body FBd N WD GWx bWx GWp bWp cUs GUs bUs cRe GRe bRe
  have GKp := ok_kept FKp WD GWx bWx cCl GCl bCl MSel gS GSel bSel
  have GEd := ok_end (CG := aG K) FEd WD ZX GWx bWx GWp bWp GWt bWt cBd GBd bBd cKp GKp bKp cRi GRi bRi cRc GRc bRc MUni gU GUni bUni MFst gF GFst bFst
  have GGr := ok_groups (CS := aS K) (CU := aU K) (CF := aF K) FGr N WD GWu bWu GWp bWp GWt bWt GWi bWi cCl GCl bCl cRc GRc bRc cBn GBn bBn MGrp gG GGrp bGrp
  have GRq := ok_readq FRq N WD ZX MWo GWo bWo GWe bWe GWp bWp cBd GBd bBd cKp GKp bKp cGr GGr bGr cEd GEd bEd
  have GLn := ok_lisname (P := P) (w := w) (base := base) FLn le
  have GLt := ok_lint (P := P) (w := w) (base := base) FLt it
  have GLc := ok_liscol FLc N cLn GLn bLn
  have GLu := ok_luse FLu cLn GLn bLn
  have GLd := ok_lcond FLd N cLn GLn bLn cLc GLc bLc cLt GLt bLt
  have GLl := ok_lcol FLl cLc GLc bLc
  have GLb := ok_lbnd FLb cLt GLt bLt
  have GEu := ok_ents FEs N (by decide) (by decide) (by decide) use_non GLu cLu.k bLu
  have GEd' := ok_ents FEs N (by decide) (by decide) (by decide) cond_non GLd cLd.k bLd
  have GEl := ok_ents FEs N (by decide) (by decide) (by decide) col_non GLl cLl.k bLl
  have GEb := ok_ents FEs N (by decide) (by decide) (by decide) bnd_non GLb cLb.k bLb
  have GCs := ok_conds FCs cEs GEd' bEs cLd
  have GLs := ok_lists FLs N cEs GEu bEs cLu cCs GCs bCs
  have GSi := ok_selin FSi cLs GLs bLs cEs GEl bEs cLl
  have GGi := ok_grpin (fdB := fdEs) FGi N cEs GEl GEb bEs cLl cLb cLc GLc bLc
  have GFi := ok_fstin FFi N cLt GLt bLt cLc GLc bLc
  have GRd := ok_lread FRd N cLs GLs bLs cGi GGi bGi cSi GSi bSi cFi GFi bFi
  have GTs := ok_tsel (P := P) (w := w) (base := base) FTs TQ
  have GTd := ok_told FTd N TQ cTs GTs bTs
  have GHe := ok_lheard FHe isi rp ZX TY told_small cRq GRq bRq kRq cTd GTd bTd
  have GRt := ok_lright FRt rp told_small cRd GRd bRd cHe GHe bHe
  have GEn := ok_entry FEn TL st GP bP
  have GLi := ok_listed FLi TL GD bD cEn GEn bEn
  have GWh := ok_lwhere FWh TL GD bD cLi GLi bLi
  have GSw := ok_selw FSw TL GD bD cLi GLi bLi cWh GWh bWh
  have GWr := ok_written FWr TL st GD bD GP bP cEn GEn bEn cLi GLi bLi cSw GSw bSw
  have GBe := ok_bent FBe TL it GD bD GP bP
  exact ok_law FZ TL cS GS bS GD bD cRt GRt bRt cWr GWr bWr cBe GBe bBe
end
end Vm
open PySem PySem.W PyProof.Rows in
set_option maxRecDepth 100000 in
set_option maxHeartbeats 0 in
theorem PySem.Challenge.cw_whatturns_k09_texts_of_no_question_holds : PySem.Challenge.rw_whatturns_k09_texts_of_no_question.Holds := by
  w_on; o_law; k_head; (case hw => w_witness2)
  k_fill
  refine Vm.walkG (l := PySem.Challenge.rw_whatturns_k09_texts_of_no_question) (n := 63) (k := 11) (x := "_law_script") (sp := Vm.spLaw) rfl (by decide) rfl ⟨rfl, by decide, by decide⟩ (fun w h Y => PySem.W.kIn_of Y) ?F (fun K H a ns short _ hS => ⟨a, ns, rfl, hS, short, fun _ => rfl⟩)
  case F =>
    intro w mg fa h KX G hmg
    refine Vm.all_of KX G ?says ?chk ?eS ?eU ?eF ?eG hmg
    case says =>
      show He.obsE Vm.faL Vm.fnL _ = He.valE Vm.fnL
      kernel_rfl
    case chk => kernel_rfl
    case eS => kernel_rfl
    case eU => kernel_rfl
    case eF => kernel_rfl
    case eG => kernel_rfl
