import PyProof.Rows.All
import Wide.All
import OpenK.AllK
import Wide.FinOn
import HandS.ForMost
import HandS.Conv
import HandS.More
import PySem.Challenge.RW_whatturns_k04_stores_through_many_change
import HandS.TupAny
import HandS.Style
import HandS.IsInst
import HandS.StrMore
import KE.KEqDict
import PyProof.Rows.SetObj
import HandS.Base
import HandS.Call
import HandS.List
import HandS.Strs
import HandS.ForExc
import HandS.Defaults
import HandS.ExcInit
import HandS.ExcValue
import HandS.ExcIs
import HandS.TryMany
import KE.GoesMore
import PyProof.EnumMake
import PyProof.EnumFor
import PyProof.Draws
import HandS.Iter
import HandS.Walk
import HandS.Property
import HandS.Text
import KE.DataEq
import KE.DataFind
import KE.SortCalls
import KE.DataMinMax
import KE.KUnpackStar
import HandS.Star
import KE.KExcIs
import HandS.ExcField
import HandS.SetBool
import HandS.SetKeys
import HandS.ClsMeth
import HandS.DictComp
import HandS.ExcOwn
import HandS.NoneIn
import HandS.TryOnly
import HandS.WordsExc
import HandS.GenList
import HandS.Comp
import HandS.SlotsOwn
import HandS.TupMul
import HandS.Zip
import PyProof.NeKinds
import HandS.OwnEq
import HandS.HeadHook1
import HandS.HeadHook2
import HandS.HeadHook3
set_option Elab.async false
set_option linter.all false
set_option maxRecDepth 100000
set_option maxHeartbeats 8000000
namespace Vm
open PySem L2
/-! the text by places -/
def top (i : Nat) : Stmt := PySem.Challenge.pw_whatturns_k04_stores_through_many_change.main.body.getD i (.Pass ⟨0, 0, 0, 0⟩)
abbrev sSource : Stmt := top 41
abbrev sDraw : Stmt := top 42
abbrev sPick : Stmt := top 43
/-- a source of draws stands at s: its list of numbers at l, the stirred number z, the count b -/
structure Src (H : Hp) (s l : Addr) (ms : List Int) (z b : Int) : Prop where
  hs : H s = some (.lst [.ref l, .int z, .int b])
  hl : H l = some (.lst (ms.map V.int))
  len : ms.length ≤ 63
theorem Src.ne {H : Hp} {s l : Addr} {ms : List Int} {z b : Int} (h : Src H s l ms z b) : s ≠ l := by
  intro e
  have h1 := h.hs
  rw [e, h.hl] at h1
  have h2 := Option.some.inj h1
  injection h2 with h3
  cases ms with
  | nil => cases h3
  | cons m r => 
    injection h3 with h4 _
    cases h4
/-- all but the source's two objects stands as before -/
def But (s l : Addr) (H H' : Hp) : Prop := ∀ b o, b ≠ s → b ≠ l → H b = some o → H' b = some o
theorem But.trans {s l : Addr} {H H1 H2 : Hp} (h1 : But s l H H1) (h2 : But s l H1 H2) : But s l H H2 :=
  fun b o n1 n2 e => h2 b o n1 n2 (h1 b o n1 n2 e)
theorem But.of_same {s l : Addr} {H H' : Hp} (h : Same H H') : But s l H H' := fun b o _ _ e => h b o e

def spSource (K : PySem.W.Frag) : Sp := fun vs H Q _ => ∃ (a : Addr) (ns : List Int), vs = [.ref a] ∧ SqL K H a (ns.map V.int) ∧ ns.length ≤ 63 ∧
  ∀ (H' : Hp) (s l : Addr) (ms : List Int) (z : Int), Same H H' → H s = none → H l = none → Src H' s l ms z 0 → Q (.ref s) H'
/-- one draw below many -/
def spDraw : Sp := fun vs H Q _ => ∃ (s l : Addr) (ms : List Int) (z b m : Int), vs = [.ref s, .int m] ∧ Src H s l ms z b ∧ 0 < m ∧ m ≤ 1000000 ∧ 0 ≤ b ∧ b < 1000000 ∧
  ∀ (H' : Hp) (ms' : List Int) (r : Int), But s l H H' → Src H' s l ms' z (b + 1) → 0 ≤ r → r < m → Q (.int r) H'

structure TxtA (K : PySem.W.Frag) (mg : Str → Option Value) : Prop where
  list : mg "list" = none
  len : mg "len" = none
  range : mg "range" = none
  tuple : mg "tuple" = none

theorem cut60 (ns : List Int) : cutV (ns.map V.int) none (some 60) = (ns.take 60).map V.int := by
  have e : HT.sIx (ns.map V.int).length (ns.map V.int).length (some 60) = min 60 ns.length := by
    have q := HT.sIx_nat (ns.map V.int).length (ns.map V.int).length 60
    rw [List.length_map] at q ⊢
    exact q
  unfold cutV
  rw [e]
  show ((ns.map V.int).drop 0).take (min 60 ns.length - 0) = _
  rw [List.drop_zero, Nat.sub_zero, ← List.map_take, List.take_eq_take_iff.mpr]
  omega
theorem map_ix {ns : List Int} {i : Nat} {y : V} (h : (ns.map V.int)[i]? = some y) : ∃ u, y = V.int u := by
  rw [List.getElem?_map] at h
  cases e : ns[i]? with
  | none => rw [e] at h; cases h
  | some u => rw [e] at h; exact ⟨u, (Option.some.inj h).symm⟩

theorem dpInts (K : PySem.W.Frag) (H : Hp) : ∀ ms : List Int, DpAll K H (ms.map V.int) (ms.map PyData.int)
  | [] => .nil
  | m :: r => .cons (.int m) (dpInts K H r)
theorem Src.but {H H' : Hp} {s l : Addr} {ms : List Int} {z b : Int} (h : Src H s l ms z b) (k : Same H H') : Src H' s l ms z b := ⟨k _ _ h.hs, k _ _ h.hl, h.len⟩
theorem layInts : ∀ ms : List Int, PyData.canLayAll0 (ms.map PyData.int) = true
  | [] => rfl
  | m :: r => by
    have h := layInts r
    simp only [List.map_cons, PyData.canLayAll0, PyData.canLay0, h, Bool.and_self]
theorem depthInts : ∀ ms : List Int, PyData.depthAll (ms.map PyData.int) = 0
  | [] => rfl
  | m :: r => by
    have h := depthInts r
    simp only [List.map_cons, PyData.depthAll, PyData.depth, h, Nat.max_self]
theorem shapedInts (ms : List Int) : SeqAt.shaped (.list (ms.map PyData.int)) = true := by
  unfold SeqAt.shaped
  simp only [PyData.canLay0, layInts ms, PyData.depth, depthInts ms]
  rfl
theorem seq0 (n : Nat) : seqIndex? 0 (n + 1) = some 0 := (ixN_seq (n := n + 1) (i := 0) (j := 0) (by unfold ixN; rw [if_pos (by omega), if_pos (by omega)]; rfl)).1
theorem But.upd {s l a : Addr} {H H' : Hp} {o : HO} (h : But s l H H') (e : a = s ∨ a = l) : But s l H (upd H' a o) := fun b u n1 n2 q => by
  rw [upd_ne (fun z => by rcases e with e | e
                          · exact n1 (z.trans e)
                          · exact n2 (z.trans e))]
  exact h b u n1 n2 q
theorem But.fresh {s l a : Addr} {H H' : Hp} {o : HO} (h : But s l H H') (e : H' a = none) : But s l H (L2.upd H' a o) := fun b u n1 n2 q => by
  have q' := h b u n1 n2 q
  rw [upd_ne (ne_of_none q' e)]
  exact q'

section
variable {P : Program} {w : World} {K : PySem.W.Frag} {mg : Str → Option Value} {base : Heap}
theorem scSource : FnScope ["_law_script", "_law_stirred", "_law_cell"] ["_law_script"] (defScope sSource) := ⟨rfl, rfl, rfl, by decide +kernel, rfl, by decide +kernel, by decide +kernel⟩
theorem ok_source {f : Addr} {fd : FuncData} (F : Fun K "_law_source" "_law_source" sSource f fd) (T : TxtA K mg) : FnOk P w K mg base CX0 1 f fd ["_law_script"] (spSource K) := by
  refine F.ok scSource (fun vs H Q E h => ?_) (fun cdv A outer s H vs Q E hr h => ?_)
  · obtain ⟨a, ns, rfl, _⟩ := h
    rfl
  · obtain ⟨a, ns, rfl, hS, hlen, k⟩ := h
    refine ⟨_, pss_cons (ps_set (i := 1) scSource.nd rfl (Or.inl rfl) pe_int)
      (pss_cons (ps_for PassesOwn.never rfl (pi_list (pe_slice sl_list (pv 0) po_none (po_some pe_int))) (pg_name (i := 2) scSource.nd rfl (Or.inl rfl))
        (pss_one (ps_set (i := 1) scSource.nd rfl (Or.inl rfl) (pe_op op_mod (pe_op op_add (pe_op op_add (pe_op op_mul (pv 1) pe_int) (pe_op op_mod (pv 2) pe_int)) pe_int) pe_int))))
      (pss_one (ps_ret (pe_lst (pa_cons (pe_callTy call_list_of (by rfl) T.list (by decide +kernel) (pa_cons (pe_slice sl_list (pv 0) po_none (po_some pe_int)) pa_nil)) (pa_cons (pv 1) (pa_cons pe_int pa_nil))))))), ?_⟩
    refine ⟨_, rfl, _, rfl, a, _, rfl, hS, fun p hp => ?_⟩
    rw [cut60] 
    have s1 : Same H (upd H p (.lst ((ns.take 60).map V.int))) := fun b o e => by
      rw [upd_ne (ne_of_none e hp)]
      exact e
    refine ⟨p, rfl, ⟨_, SqL.of upd_same⟩, for_list (K := K) (a := p) (xs := (ns.take 60).map V.int) (fun i σ H' => ∃ (z : Int) (v : Option V), σ = [some (.ref a), some (.int z), v] ∧ Same H H' ∧ H' p = some (.lst ((ns.take 60).map V.int)))
      ⟨_, _, rfl, s1, upd_same⟩ (fun i σ H' _ ⟨_, _, _, _, e⟩ => SqL.of e) ?_ ?_⟩
    · rintro i y σ H' hi ⟨z, v, rfl, s2, e2⟩
      obtain ⟨u, rfl⟩ := map_ix hi
      refine ⟨_, rfl, _, _, rfl, rfl, .inr (by decide), _, rfl, _, _, rfl, rfl, (by show (0 : Int) < 2147483563; decide), _, _, rfl, rfl, _, _, rfl, rfl, _, _, rfl, rfl, (by show (0 : Int) < 2147483629; decide), ?_⟩
      exact ⟨_, _, rfl, s2, e2⟩
    · rintro σ H' ⟨z, v, rfl, s2, e2⟩
      refine ⟨_, rfl, _, rfl, a, _, rfl, s2.seq hS, fun q hq => ?_⟩
      rw [cut60]
      refine ⟨q, _, rfl, .inl (SqL.of upd_same), fun l hl => ⟨_, rfl, (by show 3 ≤ sizeLine; decide), fun t ht => ?_⟩⟩
      have nq : l ≠ q := fun e => by
        rw [e, upd_same] at hl
        cases hl
      have nt : t ≠ l := fun e => by
        rw [e, upd_same] at ht
        cases ht
      have hl0 : H' l = none := by rw [← hl, upd_ne nq]
      have ht0 : upd H' q (.lst ((ns.take 60).map V.int)) t = none := by rw [← ht, upd_ne nt]
      have ntq : t ≠ q := fun e => by
        rw [e, upd_same] at ht0
        cases ht0
      have ht1 : H' t = none := by rw [← ht0, upd_ne ntq]
      refine k _ t l (ns.take 60) z (fun b o e => ?_) (s2.free ht1) (s2.free hl0) ⟨upd_same, ?_, ?_⟩
      · have e' := s2 b o e
        rw [upd_ne (ne_of_none e' ht1), upd_ne (ne_of_none e' hl0), upd_ne (ne_of_none e' hq)]
        exact e'
      · rw [upd_ne nt.symm, upd_same]
      · rw [List.length_take]
        omega
theorem scDraw : FnScope ["_law_source_here", "_law_many", "_law_number", "_law_cell"] ["_law_source_here", "_law_many"] (defScope sDraw) := ⟨rfl, rfl, rfl, by decide +kernel, rfl, by decide +kernel, by decide +kernel⟩
theorem ok_draw {f : Addr} {fd : FuncData} (F : Fun K "_law_draw" "_law_draw" sDraw f fd) : FnOk P w K mg base CX0 1 f fd ["_law_source_here", "_law_many"] spDraw := by
  refine F.ok scDraw (fun vs H Q E h => ?_) (fun cdv A outer s H vs Q E hr h => ?_)
  · obtain ⟨s, l, ms, z, b, m, rfl, _⟩ := h
    rfl
  · obtain ⟨a, l, ms, z, b, m, rfl, hs, m0, m1, b0, b1, k⟩ := h
    refine ⟨_, pss_cons (ps_asg (pe_op op_add (pe_ix ix_list (pv 0) pe_int (fun _ _ => rfl)) pe_int) (pg_sub (pv 0) pe_int set_list))
      (pss_cons (ps_set (i := 2) scDraw.nd rfl (Or.inl rfl) (pe_op op_add (pe_ix ix_list (pv 0) pe_int (fun _ _ => rfl)) (pe_op op_mul (pe_op op_mul pe_int (pe_ix ix_list (pv 0) pe_int (fun _ _ => rfl))) (pe_ix ix_list (pv 0) pe_int (fun _ _ => rfl)))))
      (pss_cons (ps_if (pt_cmpR (op_neD hr.units) (pe_ix ix_list (pv 0) pe_int (fun _ _ => rfl)) (pe_lst pa_nil) (nomark _))
        (pss_cons (ps_set (i := 3) scDraw.nd rfl (Or.inl rfl) (pe_bm PySem.F.plainAttrs_list PySem.F.slot_list_pop PySem.F.type_list_pop mt_popAt (pe_ix ix_list (pv 0) pe_int (fun _ _ => rfl)) (pa_cons pe_int pa_nil)))
        (pss_cons (ps_if (pt_cmpR op_ge (pv 3) (pe_op op_pow pe_int pe_int) (nomark _))
          (pss_cons (ps_expr (pe_bm PySem.F.plainAttrs_list PySem.F.slot_list_insert PySem.F.type_list_insert mt_insert (pe_ix ix_list (pv 0) pe_int (fun _ _ => rfl)) (pa_cons pe_int (pa_cons (pe_op op_fdiv (pv 3) (pv 1)) pa_nil))))
          (pss_one (ps_ret (pe_op op_mod (pv 3) (pv 1))))) pss_nil)
        (pss_one (ps_set (i := 2) scDraw.nd rfl (Or.inl rfl) (pe_op op_add (pv 2) (pv 3))))))
        pss_nil)
      (pss_cons (ps_set (i := 2) scDraw.nd rfl (Or.inl rfl) (pe_op op_mod (pe_op op_mul (pe_op op_mod (pv 2) pe_int) pe_int) pe_int))
      (pss_cons (ps_set (i := 2) scDraw.nd rfl (Or.inl rfl) (pe_op op_mod (pe_op op_add (pe_op op_add (pe_op op_mul (pv 2) (pv 2)) (pe_op op_mul pe_int (pv 2))) pe_int) pe_int))
      (pss_one (ps_ret (pe_op op_mod (pe_op op_fdiv (pe_op op_mod (pe_op op_mul (pv 2) pe_int) pe_int) pe_int) (pv 1)))))))), ?_⟩
    have hal := hs.ne
    refine ⟨_, rfl, _, _, _, _, rfl, rfl, SqL.of hs.hs, rfl, _, _, rfl, rfl, _, rfl, _, _, _, _, rfl, rfl, hs.hs, rfl, ?_⟩
    show tSeq _ _ _ _ (upd H a (.lst [.ref l, .int z, .int (b + 1)]))
    generalize hH1 : upd H a (.lst [.ref l, .int z, .int (b + 1)]) = H1
    have hs1 : Src H1 a l ms z (b + 1) := by
      rw [← hH1]
      exact ⟨upd_same, by rw [upd_ne hal.symm]; exact hs.hl, hs.len⟩
    have k1 : But a l H H1 := by
      rw [← hH1]
      exact But.upd (fun b o _ _ e => e) (.inl rfl)
    refine ⟨_, rfl, _, _, _, _, rfl, rfl, SqL.of hs1.hs, rfl, _, rfl, _, _, _, _, rfl, rfl, SqL.of hs1.hs, rfl, _, _, rfl, rfl, .inl (by decide), _, rfl, _, _, _, _, rfl, rfl, SqL.of hs1.hs, rfl, _, _, rfl, rfl, .inr ⟨by omega, by omega⟩, _, _, rfl, rfl, ?_⟩
    refine ⟨_, rfl, _, _, _, _, rfl, rfl, SqL.of hs1.hs, rfl, Nat.zero_le _, fun p hp => ?_⟩
    have hs2 : Src (upd H1 p (.lst [])) a l ms z (b + 1) := hs1.but fun b o e => by
      rw [upd_ne (ne_of_none e hp)]
      exact e
    have k2 : But a l H (upd H1 p (.lst [])) := k1.fresh hp
    refine ⟨_, _, .lst (SqL.of hs2.hl) (dpInts K _ ms), .lst (SqL.of upd_same) .nil, shapedInts ms, rfl, _, rfl, ?_⟩
    generalize upd H1 p (.lst []) = H2 at hs2 k2 ⊢
    cases ms with
    | nil =>
      refine iteF ?_
      refine ⟨_, rfl, _, _, rfl, rfl, (by show (0 : Int) < 2147483563; decide), _, _, rfl, rfl, .inr (by decide), _, _, rfl, rfl, (by show (0 : Int) < 2147483647; decide), ?_⟩
      refine ⟨_, rfl, _, rfl, _, _, rfl, rfl, .inl ⟨?_, ?_⟩, _, rfl, _, _, rfl, rfl, .inl (by decide), _, _, rfl, rfl, _, _, rfl, rfl, _, _, rfl, rfl, (by show (0 : Int) < 2147483587; decide), ?_⟩
      · omega
      · omega
      refine ⟨_, rfl, _, _, rfl, rfl, .inr (by decide), _, _, rfl, rfl, (by show (0 : Int) < 2147483629; decide), _, _, rfl, rfl, ⟨by decide, by decide⟩, _, rfl, _, _, rfl, rfl, m0, ?_⟩
      exact k _ _ _ k2 hs2 (Int.emod_nonneg _ (by omega)) (Int.emod_lt_of_pos _ m0)
    | cons c r =>
      have hr : r.length + 1 ≤ 63 := hs2.len
      refine iteT ?_
      refine ⟨_, rfl, _, _, _, _, rfl, rfl, SqL.of hs2.hs, rfl, .inl ⟨rfl, _, SqL.of hs2.hl⟩, l, _, 0, 0, .int c, rfl, rfl, hs2.hl, by decide, by decide, seq0 _, rfl, ?_⟩
      have hs3 : Src (upd H2 l (.lst (r.map V.int))) a l r z (b + 1) := ⟨by rw [upd_ne hal]; exact hs2.hs, upd_same, by omega⟩
      have k3 : But a l H (upd H2 l (.lst (r.map V.int))) := k2.upd (.inr rfl)
      show tSeq _ _ _ _ (upd H2 l (.lst (r.map V.int)))
      generalize upd H2 l (.lst (r.map V.int)) = H3 at hs3 k3 ⊢
      refine ⟨_, rfl, _, _, rfl, rfl, ⟨by decide, by decide, by decide⟩, _, _, rfl, rfl, _, rfl, ?_⟩
      refine ite2 (fun _ => ?_) (fun _ => ?_)
      · refine ⟨_, rfl, _, _, _, _, rfl, rfl, SqL.of hs3.hs, rfl, .inl ⟨rfl, _, SqL.of hs3.hl⟩, _, rfl, _, rfl, _, _, rfl, rfl, ⟨m0, by omega⟩, l, _, _, _, rfl, rfl, hs3.hl, ?_, by decide, by decide, ?_⟩
        · rw [List.length_map]
          show r.length < 16777216
          omega
        refine ⟨_, rfl, _, rfl, _, _, rfl, rfl, m0, ?_⟩
        exact k _ (c / m :: r) _ (k3.upd (.inr rfl)) ⟨by rw [upd_ne hal]; exact hs3.hs, upd_same, hr⟩ (Int.emod_nonneg _ (by omega)) (Int.emod_lt_of_pos _ m0)
      · refine ⟨_, rfl, _, rfl, _, _, rfl, rfl, ?_⟩
        refine ⟨_, rfl, _, _, rfl, rfl, (by show (0 : Int) < 2147483563; decide), _, _, rfl, rfl, .inr (by decide), _, _, rfl, rfl, (by show (0 : Int) < 2147483647; decide), ?_⟩
        refine ⟨_, rfl, _, rfl, _, _, rfl, rfl, .inl ⟨?_, ?_⟩, _, rfl, _, _, rfl, rfl, .inl (by decide), _, _, rfl, rfl, _, _, rfl, rfl, _, _, rfl, rfl, (by show (0 : Int) < 2147483587; decide), ?_⟩
        · omega
        · omega
        refine ⟨_, rfl, _, _, rfl, rfl, .inr (by decide), _, _, rfl, rfl, (by show (0 : Int) < 2147483629; decide), _, _, rfl, rfl, ⟨by decide, by decide⟩, _, rfl, _, _, rfl, rfl, m0, ?_⟩
        exact k _ _ _ k3 hs3 (Int.emod_nonneg _ (by omega)) (Int.emod_lt_of_pos _ m0)
end
end Vm
/-! tuples that are made here: their objects have no dict -/
namespace Vm
open PySem PySem.Spec PyProof.Rows L2 HT
section
variable {prog : Program} {w : World} {A : Around} {E : Value → Shared → Prop} {s : Shared}
theorem places_rev (n : Nat) : Builtin.Slice.sliceAdjust none none (-1) (n : Int) = ((n : Int) - 1, -1) ∧ Builtin.Slice.slicePlaces ((n : Int) - 1) (-1) (-1) = n := by
  refine ⟨rfl, ?_⟩
  unfold Builtin.Slice.slicePlaces
  rw [if_neg (by decide)]
  by_cases h : ((n : Int) - 1) > -1
  · rw [if_pos h]
    have : (((n : Int) - 1 - -1 - 1) / (- -1) + 1) = (n : Int) := by
      rw [show (- -1 : Int) = 1 by rfl, Int.ediv_one]
      omega
    rw [this]
    rfl
  · rw [if_neg h]
    have : n = 0 := by omega
    rw [this]
    rfl
theorem pick_rev (xs : Array Value) : ((List.range xs.size).filterMap fun (m : Nat) => xs[(((xs.size : Int) - 1) + (m : Int) * (-1)).toNat]?).toArray = xs.toList.reverse.toArray := by
  congr 1
  have h : ∀ k, k ≤ xs.size → ((List.range k).filterMap fun (m : Nat) => xs[(((xs.size : Int) - 1) + (m : Int) * (-1)).toNat]?) = (xs.toList.drop (xs.size - k)).reverse := by
    intro k
    induction k with
    | zero =>
      intro _
      rw [List.range_zero, List.drop_of_length_le (by rw [Array.length_toList]; omega)]
      rfl
    | succ k ih =>
      intro hk
      rw [List.range_succ, List.filterMap_append, ih (by omega)]
      have e : (((xs.size : Int) - 1) + (k : Int) * (-1)).toNat = xs.size - (k + 1) := by omega
      have lt : xs.size - (k + 1) < xs.size := by omega
      have e2 : xs.toList.drop (xs.size - (k + 1)) = xs.toList[xs.size - (k + 1)]'(by rw [Array.length_toList]; exact lt) :: xs.toList.drop (xs.size - k) := by
        have z := List.drop_eq_getElem_cons (l := xs.toList) (i := xs.size - (k + 1)) (by rw [Array.length_toList]; exact lt)
        rw [z]
        congr 2
        omega
      rw [e2, List.reverse_cons]
      congr 1
      simp only [List.filterMap_cons, List.filterMap_nil, e, Array.getElem?_eq_getElem lt]
      rfl
  have z := h xs.size (Nat.le_refl _)
  rw [z, Nat.sub_self, List.drop_zero]
theorem sliceApplied_rev {sl : Addr} {vl vu vs : Value} {n : Nat} {Q : Int × Int × Nat → Shared → Prop} (hs : s.heap.IsSliceOf sl vl vu vs) (pl : IsPart vl none) (pu : IsPart vu none) (ps : IsPart vs (some (-1)))
    (h : Q ((n : Int) - 1, -1, n) s) : wpAny (model prog w) A (Builtin.Slice.sliceApplied (.ref sl) (pure (n : Int))) Q E s := by
  obtain ⟨os, hos, hcs, hds⟩ := id hs
  unfold Builtin.Slice.sliceApplied Builtin.Slice.sliceFields
  refine wpAny_bind (wpAny_bind (wpAny_field hos hds (x := vl) rfl (wpAny_bind (wpAny_field hos hds (x := vu) rfl (wpAny_bind (wpAny_field hos hds (x := vs) rfl (wpAny_pure ?_)))))))
  refine wpAny_bind (slicePart_ ps ?_)
  show wpAny _ _ (if ((-1 : Int) == 0) = true then _ else _) _ _ s
  rw [if_neg (by decide)]
  refine wpAny_bind (slicePart_ pl (wpAny_bind (slicePart_ pu (wpAny_bind (wpAny_pure ?_)))))
  show wpAny _ _ (match Builtin.Slice.sliceAdjust none none (-1) (n : Int) with | (lo, hi) => pure (lo, (-1 : Int), Builtin.Slice.slicePlaces lo hi (-1))) _ _ s
  rw [(places_rev n).1]
  show wpAny _ _ (pure ((n : Int) - 1, (-1 : Int), Builtin.Slice.slicePlaces ((n : Int) - 1) (-1) (-1))) _ _ s
  rw [(places_rev n).2]
  exact wpAny_pure h
theorem getItem_tuple_rev {t sl : Addr} {items : Array Value} {vl vu vs : Value} {Q : Value → Shared → Prop} (ht : IsTup s.heap t items) (hs : s.heap.IsSliceOf sl vl vu vs) (pl : IsPart vl none) (pu : IsPart vu none) (ps : IsPart vs (some (-1)))
    (h : Q (.ref s.heap.objs.size) { s with heap := s.heap.push { cls := .type "tuple", data := .seq items.toList.reverse.toArray } })
    (hsz : items.size ≤ sizeLine) : wpAny (model prog w) A (getItem (.ref t) (.ref sl)) Q E s := by
  have htake : sizeOk (.seq items.toList.reverse.toArray) := by
    show items.toList.reverse.toArray.size ≤ sizeLine
    rw [List.size_toArray, List.length_reverse, Array.length_toList]
    exact hsz
  obtain ⟨os, hos, hcs, hds⟩ := id hs
  have hTs : s.TypeIs (.ref sl) "slice" := ⟨os, hos, hcs⟩
  unfold getItem
  try with_reducible refine wpAny_holding ?_
  first | refine wpAny_bind (wpAny_pure ?_) | skip
  refine wpAny_bind (wpAny_sequenceKey ht.typeIs (by decide) ?_)
  refine wpAny_bind (wpAny_callSpecial?_slot (name := Str.ofString "__getitem__") ht.typeIs PyProof.Rows.slot_tuple_getitem
    (wpAny_call_entry PyProof.Rows.slot_tuple_getitem ht.typeIs entry_tuple_getitem ?_ (args_tuple_getitem _ _)))
  show wpAny _ _ (Builtin.Tuple.tupleItemsOf (.ref t) >>= _) _ _ s
  refine wpAny_bind (tupleItemsOf_ ht ?_)
  refine wpAny_bind (wpAny_typeOf hTs ?_)
  rw [if_pos (by decide)]
  refine wpAny_bind (sliceApplied_rev hs pl pu ps ?_)
  have hno : ¬ (((((items.size : Int) - 1) == 0 && (-1 : Int) == 1 && items.size == items.size)) = true) := by
    intro q
    rw [Bool.and_eq_true, Bool.and_eq_true] at q
    exact absurd q.1.2 (by decide)
  show wpAny _ _ (if (((items.size : Int) - 1) == 0 && (-1 : Int) == 1 && items.size == items.size) = true then _ else _) _ _ s
  rw [if_neg hno, pick_rev]
  first
    | exact wpAny_bind (m := Builtin.Tuple.tupleExact _) (wpAny_newObj_type (wpAny_pure ⟨_, rfl, wpAny_pure h⟩) htake)
    | exact wpAny_bind (m := Builtin.Tuple.tupleExact _) (wpAny_newObj_type (wpAny_bind (wpAny_pure (wpAny_pure ⟨_, rfl, wpAny_pure h⟩))) htake)
    | exact wpAny_bind (wpAny_bind (m := Builtin.Tuple.tupleExact _) (wpAny_newObj_type (wpAny_pure (wpAny_pure ⟨_, rfl, wpAny_pure h⟩)) htake))
    | exact wpAny_bind (wpAny_bind (m := Builtin.Tuple.tupleExact _) (wpAny_newObj_type (wpAny_pure ⟨_, rfl, wpAny_pure h⟩) htake))
end
/-- a new tuple of these items is the value -/
def New (H : Hp) (xs : List V) (Q : VK) : Prop := ∀ (p : Addr) (o : Obj), H p = none → o.dict = none → Q (.ref p) (upd H p (.frz o (.tup xs)))
abbrev tobj (us : List Value) : Obj := { cls := .type "tuple", data := .seq us.toArray }
section
variable {X : Cx} {pins : List (Addr × Obj)} {σ : L2.St} {H : Hp} {s : Shared} {Q : VK}
/-- its object is laid behind the heap -/
theorem New.laid {xs : List V} {us : List Value} (q : New H xs Q) (I : Inv X pins σ H s) (r : Vals xs us) (few : xs.length ≤ sizeLine) : EP X pins σ Q (.ref s.heap.objs.size) { s with heap := s.heap.push (tobj us) } := by
  have at_ : (s.heap.push (tobj us)).get? s.heap.objs.size = some (tobj us) := Heap.get?_push_size _ rfl
  have ok : ObjOk X.prog X.w (upd H s.heap.objs.size (.frz (tobj us) (.tup xs))) (s.heap.push (tobj us)) s.heap.objs.size (.frz (tobj us) (.tup xs)) := ⟨at_, few, us, r, _, at_, rfl, _, rfl⟩
  have free : H s.heap.objs.size = none := I.hok.fresh (Nat.le_refl _)
  refine ⟨.ref s.heap.objs.size, _, I.laid (o := .frz (tobj us) (.tup xs)) (t' := s.toks) (fun c u e => ?_) (Nat.le_refl _) ok, rfl, q _ _ free rfl⟩
  exact Heap.get?_push_of_some (tobj us) e
theorem vals_few {xs : List V} {us : List Value} (r : Vals xs us) {n : Nat} (h : xs.length ≤ n) : us.toArray.size ≤ n := by
  rw [List.size_toArray, ← r.length]
  exact h
def tTupF (t : TA) : TE := fun σ H Q => t σ H fun xs H1 => xs.length ≤ sizeLine ∧ New H1 xs Q
theorem pe_tupF {es : List Expr} {t : TA} {pos : Pos} {x1} (h : PA X es t) : PE X (.Tuple es x1 pos) (tTupF t) := by
  constructor
  intro pins s σ H Q I want
  refine wpAny_Tuple_spliced (thn (h.run pos pins s σ H _ I want) ?_)
  rintro us s1 ⟨xs, H1, I1, r, few, q⟩
  exact ⟨r.length ▸ few, q.laid I1 r few⟩
/-- tuple(list) -/
theorem call_tupleF : CallR X (.type "tuple") (fun xs H Q => ∃ p ys, xs = [.ref p] ∧ SqL X.K H p ys ∧ New H ys Q) := by
  rintro pins s σ H xs us Q I rel ⟨p, ys, rfl, hq, q⟩
  obtain ⟨u, rfl, e⟩ := vals1 rel
  cases e
  obtain ⟨its, r, pl, few⟩ := I.list hq
  exact call_tuple_list pl.isList (fun h' kp => q.laid (s := { s with heap := h' }) (I.kept (t' := s.toks) kp) r few) (vals_few r few)
/-- t + u -/
def rCatF (K : PySem.W.Frag) : R2 := fun x y H Q => ∃ a b xs ys, x = .ref a ∧ y = .ref b ∧ SqT K H a xs ∧ SqT K H b ys ∧ xs.length + ys.length ≤ sizeLine ∧
  (xs = [] → Q (.ref b) H) ∧ (xs ≠ [] → ys = [] → Q (.ref a) H) ∧ (xs ≠ [] → ys ≠ [] → New H (xs ++ ys) Q)
theorem op_catF : OpR X (binaryOp .Add) (rCatF X.K) := by
  rintro pins s σ H x y v u Q I rx ry ⟨a, b, xs, ys, rfl, rfl, ha, hb, few, left, right, both⟩
  cases rx
  cases ry
  obtain ⟨its, r, ta, _⟩ := I.tuple ha
  obtain ⟨its2, r2, tb, _⟩ := I.tuple hb
  have none_iff := r2.nil_iff
  cases xs with
  | nil =>
    cases r
    exact cat_tup0 ta tb ⟨.ref b, H, I, rfl, left rfl⟩
  | cons y0 xs =>
    have some_ : y0 :: xs ≠ [] := List.cons_ne_nil _ _
    refine HT.cat_tup ta tb (fun e => some_ (r.nil_iff.mp e)) (fun e => ⟨.ref a, H, I, rfl, right some_ (none_iff.mp e)⟩) (fun e => ?_) ?_
    · exact (both some_ fun z => e (none_iff.mpr z)).laid I (r.append r2) (by rw [List.length_append]; exact few)
    · rw [← r.length, ← r2.length]
      exact few
/-- t[lo:hi] -/
def rSlF (K : PySem.W.Frag) : V → Option Int → Option Int → Hp → VK → Prop := fun x lo hi H Q => ∃ a xs, x = .ref a ∧ SqT K H a xs ∧
  (HT.sIx xs.length 0 lo = 0 ∧ HT.sIx xs.length xs.length hi = xs.length → Q (.ref a) H) ∧ New H (cutV xs lo hi) Q
theorem sl_tupF : SlR X (rSlF X.K) := by
  rintro pins s σ H x v vl vu lo hi sl Q I rx sliced pl pu ⟨a, xs, rfl, hx, whole, q⟩
  cases rx
  obtain ⟨its, r, ht, few⟩ := I.tuple hx
  have size : its.toArray.size = xs.length := by rw [List.size_toArray, r.length]
  refine ⟨"tuple", _, PyProof.Rows.slot_tuple_getitem.lookup, ht.typeIs, ?_⟩
  by_cases all : HT.sIx xs.length 0 lo = 0 ∧ HT.sIx xs.length xs.length hi = xs.length
  · exact getItem_tuple_whole ht sliced pl pu (size ▸ all) ⟨.ref a, H, I, rfl, whole all⟩
  · refine HT.getItem_tuple_cut ht sliced pl pu (size ▸ all) ?_ (size ▸ few)
    rw [size]
    exact q.laid I ((r.drop _).take _) (Nat.le_trans (cutV_length xs lo hi) few)
/-- t[::-1] -/
def tRevT (K : PySem.W.Frag) (te : TE) : TE := fun σ H Q => te σ H fun x H1 => ∃ a xs, x = .ref a ∧ SqT K H1 a xs ∧ New H1 xs.reverse Q
theorem pe_revT {e : Expr} {te : TE} {k : Nat} {p1 p2 p3 pos : Pos} (he : PE X e te) : PE X (.Subscript e (.Slice none none (some (.UnaryOp .USub (.Constant (.int 1) k p1) p2)) p3) pos) (tRevT X.K te) := by
  constructor
  intro pins s σ H Q I want
  refine Subscript_ (thn (he.run pins s σ H _ I want) ?_)
  rintro v s1 ⟨_, H1, I1, rel, a, xs, rfl, hx, q⟩
  cases rel
  have back : PO X (some (.UnaryOp .USub (.Constant (.int 1) k p1) p2)) (tPart (tUn (rU fun i => .int (-i)) (tC (.int 1)))) := po_some (pe_un un_neg pe_int)
  refine wpAny_Slice (thn (po_none.run pins s1 σ H1 (fun o G => o = none ∧ G = H1) I1 ⟨rfl, rfl⟩) ?_)
  rintro vl s2 ⟨_, _, I2, pl, rfl, rfl⟩
  refine thn (po_none.run pins s2 σ _ (fun o G => o = none ∧ G = _) I2 ⟨rfl, rfl⟩) ?_
  rintro vu s3 ⟨_, _, I3, pu, rfl, rfl⟩
  refine thn (back.run pins s3 σ _ (fun o G => o = some (-1) ∧ G = _) I3 ⟨1, rfl, -1, rfl, rfl, rfl⟩) ?_
  rintro vs s4 ⟨_, G, I4, ps, rfl, rfl⟩
  let sob : Obj := { cls := .type "slice", data := .fields #[vl, vu, vs] }
  have I5 : Inv X pins σ G { s4 with heap := s4.heap.push sob } := I4.kept (t' := s4.toks) fun _ _ z => Heap.get?_push_of_some sob z
  obtain ⟨its, r, ht, few⟩ := I5.tuple hx
  show wpAny (model X.prog X.w) X.A (subscriptTail e (.Slice none none (some (.UnaryOp .USub (.Constant (.int 1) k p1) p2)) p3) (.ref a) (.ref s4.heap.objs.size)) (EP X pins σ Q) X.xe { s4 with heap := s4.heap.push sob }
  refine tail_any (ops := [.ref a, .ref s4.heap.objs.size]) ht.typeIs PyProof.Rows.slot_tuple_getitem.lookup ?_ (by with_unfolding_all rfl)
  exact getItem_tuple_rev ht (Heap.IsSliceOf.new _ vl vu vs) pl pu ps (q.laid I5 r.reverse (by rw [List.length_reverse]; exact few)) (vals_few r few)
end
end Vm
namespace Vm
open PySem L2
/-! data of any kind as trees: how it lies in the abstract heap, its text by repr, its type -/
inductive Tr where
  | non | bl (b : Bool) | int (i : Int) | str (x : Str) | lst (xs : List Tr) | tup (xs : List Tr) | dct (ks : List Key) (xs : List Tr)
def keyText : Key → Str
  | .inl i => toString i
  | .inr z => reprText z
def keyFits : Key → Prop
  | .inl i => i.natAbs.log2 < 1920
  | .inr z => (reprText z).length ≤ sizeLine
def entryText (k v : Str) : Str := k ++ ": " ++ v
mutual
def Tr.text : Tr → Str
  | .non => "None"
  | .bl b => if b then "True" else "False"
  | .int i => toString i
  | .str x => reprText x
  | .lst xs => listText (texts xs)
  | .tup xs => tupleText (texts xs)
  | .dct ks xs => dictText (List.zipWith entryText (ks.map keyText) (texts xs))
def texts : List Tr → List Str
  | [] => []
  | x :: r => x.text :: texts r
end
theorem texts_map : ∀ ts : List Tr, texts ts = ts.map Tr.text
  | [] => rfl
  | t :: r => by
    show t.text :: texts r = _
    rw [texts_map r]
    rfl
/-- an empty tuple of the module's own -/
def KTup (K : PySem.W.Frag) (a : Addr) : Prop := ∃ (o : Obj) (its : Array Value) (n : Nat), K.lookup a = some o ∧ o.cls = .type "tuple" ∧ o.data = .seq its n ∧ its.size ≤ sizeLine ∧ Vals [] its.toList
mutual
/-- v is data of the tree t, at most n deep, its own objects at bs -/
inductive Dt (K : PySem.W.Frag) (H : Hp) : V → Tr → Nat → List Addr → Prop
  | non {n : Nat} : Dt K H .non .non n []
  | bl {n : Nat} (b : Bool) : Dt K H (.bl b) (.bl b) n []
  | int {n : Nat} {i : Int} (h : i.natAbs.log2 < 1920) : Dt K H (.int i) (.int i) n []
  | str {n : Nat} {x : Str} (h : (reprText x).length ≤ sizeLine) (hz : x.length ≤ sizeLine) : Dt K H (.str x) (.str x) n []
  | lst {n : Nat} {a : Addr} {xs : List V} {ts : List Tr} {bs : List Addr} (h : H a = some (.lst xs)) (r : DtAll K H xs ts n bs) (na : a ∉ bs) : Dt K H (.ref a) (.lst ts) (n + 1) (a :: bs)
  | emp {n : Nat} {a : Addr} (h : KTup K a) : Dt K H (.ref a) (.tup []) (n + 1) []
  | tup {n : Nat} {a : Addr} {ob : Obj} {xs : List V} {ts : List Tr} {bs : List Addr} (h : H a = some (.frz ob (.tup xs))) (nd : ob.dict = none) (r : DtAll K H xs ts n bs) (na : a ∉ bs) : Dt K H (.ref a) (.tup ts) (n + 1) (a :: bs)
  | dct {n : Nat} {a : Addr} {kvs : List (Key × V)} {ts : List Tr} {bs : List Addr} (h : H a = some (.dK kvs)) (kf : ∀ p ∈ kvs, keyFits p.1) (r : DtAll K H (kvs.map (·.2)) ts n bs) (na : a ∉ bs) : Dt K H (.ref a) (.dct (kvs.map (·.1)) ts) (n + 1) (a :: bs)
inductive DtAll (K : PySem.W.Frag) (H : Hp) : List V → List Tr → Nat → List Addr → Prop
  | nil {n : Nat} : DtAll K H [] [] n []
  | cons {n : Nat} {v : V} {vs : List V} {x : Tr} {xs : List Tr} {bs cs : List Addr} (h : Dt K H v x n bs) (r : DtAll K H vs xs n cs) : DtAll K H (v :: vs) (x :: xs) n (bs ++ cs)
end
mutual
theorem Dt.lvl {K : PySem.W.Frag} {H : Hp} : ∀ {v : V} {x : Tr} {n m : Nat} {bs : List Addr}, Dt K H v x n bs → n ≤ m → Dt K H v x m bs
  | _, _, _, _, _, .non, _ => .non
  | _, _, _, _, _, .bl b, _ => .bl b
  | _, _, _, _, _, .int h, _ => .int h
  | _, _, _, _, _, .str h hz, _ => .str h hz
  | _, _, _, 0, _, .lst _ _ _, l => absurd l (by omega)
  | _, _, _, _ + 1, _, .lst h r na, l => .lst h (r.lvl (Nat.le_of_succ_le_succ l)) na
  | _, _, _, 0, _, .emp _, l => absurd l (by omega)
  | _, _, _, _ + 1, _, .emp h, l => .emp h
  | _, _, _, 0, _, .tup _ _ _ _, l => absurd l (by omega)
  | _, _, _, _ + 1, _, .tup h nd r na, l => .tup h nd (r.lvl (Nat.le_of_succ_le_succ l)) na
  | _, _, _, 0, _, .dct _ _ _ _, l => absurd l (by omega)
  | _, _, _, _ + 1, _, .dct h kf r na, l => .dct h kf (r.lvl (Nat.le_of_succ_le_succ l)) na
theorem DtAll.lvl {K : PySem.W.Frag} {H : Hp} : ∀ {v : List V} {x : List Tr} {n m : Nat} {bs : List Addr}, DtAll K H v x n bs → n ≤ m → DtAll K H v x m bs
  | _, _, _, _, _, .nil, _ => .nil
  | _, _, _, _, _, .cons h r, l => .cons (h.lvl l) (r.lvl l)
end
mutual
theorem Dt.keep {K : PySem.W.Frag} {H H' : Hp} : ∀ {v : V} {x : Tr} {n : Nat} {bs : List Addr}, Dt K H v x n bs → (∀ b ∈ bs, ∀ o, H b = some o → H' b = some o) → Dt K H' v x n bs
  | _, _, _, _, .non, _ => .non
  | _, _, _, _, .bl b, _ => .bl b
  | _, _, _, _, .int h, _ => .int h
  | _, _, _, _, .str h hz, _ => .str h hz
  | _, _, _, _, .lst h r na, k => .lst (k _ List.mem_cons_self _ h) (r.keep fun b hb => k b (List.mem_cons_of_mem _ hb)) na
  | _, _, _, _, .emp h, k => .emp h
  | _, _, _, _, .tup h nd r na, k => .tup (k _ List.mem_cons_self _ h) nd (r.keep fun b hb => k b (List.mem_cons_of_mem _ hb)) na
  | _, _, _, _, .dct h kf r na, k => .dct (k _ List.mem_cons_self _ h) kf (r.keep fun b hb => k b (List.mem_cons_of_mem _ hb)) na
theorem DtAll.keep {K : PySem.W.Frag} {H H' : Hp} : ∀ {v : List V} {x : List Tr} {n : Nat} {bs : List Addr}, DtAll K H v x n bs → (∀ b ∈ bs, ∀ o, H b = some o → H' b = some o) → DtAll K H' v x n bs
  | _, _, _, _, .nil, _ => .nil
  | _, _, _, _, .cons h r, k => .cons (h.keep fun b hb => k b (List.mem_append_left _ hb)) (r.keep fun b hb => k b (List.mem_append_right _ hb))
end
mutual
/-- its objects stand -/
theorem Dt.there {K : PySem.W.Frag} {H : Hp} : ∀ {v : V} {x : Tr} {n : Nat} {bs : List Addr}, Dt K H v x n bs → ∀ b ∈ bs, ∃ o, H b = some o
  | _, _, _, _, .non => fun _ h => nomatch h
  | _, _, _, _, .bl b => fun _ h => nomatch h
  | _, _, _, _, .int h => fun _ h => nomatch h
  | _, _, _, _, .str h hz => fun _ h => nomatch h
  | _, _, _, _, .lst h r na => fun b hb => (List.mem_cons.mp hb).elim (fun e => ⟨_, e ▸ h⟩) (DtAll.there r b)
  | _, _, _, _, .emp h => fun _ h => nomatch h
  | _, _, _, _, .tup h nd r na => fun b hb => (List.mem_cons.mp hb).elim (fun e => ⟨_, e ▸ h⟩) (DtAll.there r b)
  | _, _, _, _, .dct h kf r na => fun b hb => (List.mem_cons.mp hb).elim (fun e => ⟨_, e ▸ h⟩) (DtAll.there r b)
theorem DtAll.there {K : PySem.W.Frag} {H : Hp} : ∀ {v : List V} {x : List Tr} {n : Nat} {bs : List Addr}, DtAll K H v x n bs → ∀ b ∈ bs, ∃ o, H b = some o
  | _, _, _, _, .nil => fun _ h => nomatch h
  | _, _, _, _, .cons h r => fun b hb => (List.mem_append.mp hb).elim (Dt.there h b) (DtAll.there r b)
end
theorem DtAll.length {K : PySem.W.Frag} {H : Hp} : ∀ {v : List V} {x : List Tr} {n : Nat} {bs : List Addr}, DtAll K H v x n bs → v.length = x.length
  | _, _, _, _, .nil => rfl
  | _, _, _, _, .cons _ r => congrArg (· + 1) r.length
theorem DtAll.append {K : PySem.W.Frag} {H : Hp} : ∀ {v v' : List V} {x x' : List Tr} {n : Nat} {bs cs : List Addr}, DtAll K H v x n bs → DtAll K H v' x' n cs → DtAll K H (v ++ v') (x ++ x') n (bs ++ cs)
  | _, _, _, _, _, _, _, .nil, s => s
  | _, _, _, _, _, _, _, .cons (bs := b1) (cs := b2) h r, s => by
    rw [List.append_assoc]
    exact .cons h (r.append s)
/-- the item at i -/
theorem DtAll.get {K : PySem.W.Frag} {H : Hp} : ∀ {vs : List V} {ts : List Tr} {n : Nat} {bs : List Addr}, DtAll K H vs ts n bs → ∀ {i : Nat} {v : V}, vs[i]? = some v → ∃ t cs, ts[i]? = some t ∧ Dt K H v t n cs ∧ ∀ c ∈ cs, c ∈ bs
  | _, _, _, _, .nil, _, _, e => nomatch e
  | _, _, _, _, .cons h r, 0, _, e => ⟨_, _, rfl, Option.some.inj e ▸ h, fun c hc => List.mem_append_left _ hc⟩
  | _, _, _, _, .cons h r, i + 1, _, e => by
    obtain ⟨t, cs, e1, d, k⟩ := r.get (i := i) e
    exact ⟨t, cs, e1, d, fun c hc => List.mem_append_right _ (k c hc)⟩
/-- a part of it -/
theorem DtAll.part {K : PySem.W.Frag} {H : Hp} {n : Nat} : ∀ {vs : List V} {ts : List Tr} {bs : List Addr}, DtAll K H vs ts n bs → ∀ i, (∃ cs, DtAll K H (vs.take i) (ts.take i) n cs ∧ ∀ c ∈ cs, c ∈ bs) ∧ ∃ cs, DtAll K H (vs.drop i) (ts.drop i) n cs ∧ ∀ c ∈ cs, c ∈ bs
  | _, _, _, .nil, i => ⟨⟨[], by simpa using .nil, fun _ h => nomatch h⟩, ⟨[], by simpa using .nil, fun _ h => nomatch h⟩⟩
  | _, _, _, .cons h r, 0 => ⟨⟨[], .nil, fun _ h => nomatch h⟩, ⟨_, .cons h r, fun _ z => z⟩⟩
  | _, _, _, .cons (bs := b1) h r, i + 1 => by
    obtain ⟨⟨cs, d, k⟩, ⟨cs', d', k'⟩⟩ := r.part i
    exact ⟨⟨b1 ++ cs, .cons h d, fun c hc => (List.mem_append.mp hc).elim (List.mem_append_left _) fun z => List.mem_append_right _ (k c z)⟩, ⟨cs', d', fun c hc => List.mem_append_right _ (k' c hc)⟩⟩
/-! types -/
def tyOf : Tr → String
  | .non => "NoneType"
  | .bl _ => "bool"
  | .int _ => "int"
  | .str _ => "str"
  | .lst _ => "list"
  | .tup _ => "tuple"
  | .dct _ _ => "dict"
theorem Dt.ty {K : PySem.W.Frag} {H : Hp} : ∀ {v : V} {t : Tr} {n : Nat} {bs : List Addr}, Dt K H v t n bs → TyX K H v (.type (tyOf t))
  | _, _, _, _, .non => .base .non
  | _, _, _, _, .bl b => .base (.bl b)
  | _, _, _, _, .int h => .base (.int _)
  | _, _, _, _, .str h hz => .base (.str _)
  | _, _, _, _, .lst h r na => .base (.lst h)
  | _, _, _, _, .emp h => let ⟨o, _, _, e, c, _⟩ := h; .kTuple e c
  | _, _, _, _, .tup h nd r na => .fTuple h
  | _, _, _, _, .dct h kf r na => .base (.dK h)
def isStr : Tr → Bool
  | .str _ => true
  | _ => false
def isTup : Tr → Bool
  | .tup _ => true
  | _ => false
def isBl : Tr → Bool
  | .bl _ => true
  | _ => false
def isInt : Tr → Bool
  | .bl _ => true
  | .int _ => true
  | _ => false
theorem kit_str {K : PySem.W.Frag} (t : Tr) : PySem.W.kitOne K (.type (tyOf t)) (.type "str") = some (isStr t) := by
  cases t <;> (dsimp only [tyOf, isStr]; exact kit_ty (by decide +kernel))
theorem kit_tup {K : PySem.W.Frag} (t : Tr) : PySem.W.kitOne K (.type (tyOf t)) (.type "tuple") = some (isTup t) := by
  cases t <;> (dsimp only [tyOf, isTup]; exact kit_ty (by decide +kernel))
theorem kit_bl {K : PySem.W.Frag} (t : Tr) : PySem.W.kitOne K (.type (tyOf t)) (.type "bool") = some (isBl t) := by
  cases t <;> (dsimp only [tyOf, isBl]; exact kit_ty (by decide +kernel))
theorem kit_int {K : PySem.W.Frag} (t : Tr) : PySem.W.kitOne K (.type (tyOf t)) (.type "int") = some (isInt t) := by
  cases t <;> (dsimp only [tyOf, isInt]; exact kit_ty (by decide +kernel))
section
variable {X : Cx} {pins : List (Addr × Obj)} {σ : St} {H : Hp} {s : Shared}
/-- keys and values of a dict's entries -/
theorem pairs_keys {P : Program} {w : World} {h : Heap} {bs : List Addr} {n : Nat} : ∀ {kvs : List (Key × V)} {vs : List (Key × Value)} {es : List DictEntry}, KV kvs vs → PySem.Pairs (mixKind P w) es vs → (∀ p ∈ kvs, keyFits p.1) →
    ReprAllK P w bs h n (es.map (·.key)) ((kvs.map (·.1)).map keyText) ∧ es.map (·.val) = vs.map (·.2) ∧ Vals (kvs.map (·.2)) (vs.map (·.2))
  | _, _, _, .nil, .nil, _ => ⟨.nil, rfl, .nil⟩
  | (k, v) :: kvs, _, _, .cons (b := b) r rs, .cons e ev es, kf => by
    obtain ⟨h1, h2, h3⟩ := pairs_keys (h := h) (bs := bs) (n := n) rs es fun p hp => kf p (List.mem_cons_of_mem _ hp)
    obtain ⟨r1, r2⟩ := r
    refine ⟨.cons ?_ h1, by rw [List.map_cons, List.map_cons, h2, ev], .cons r2 h3⟩
    have hk := kf (k, v) List.mem_cons_self
    obtain ⟨b1, b2⟩ := b
    dsimp only at r1 e ⊢
    subst r1
    rcases keyIs_shape e with ⟨i, t, rfl, q⟩ | ⟨x, t, rfl, q⟩
    · rw [q]
      exact .of_is (ReprIs.int t hk) _ _ _
    · rw [q]
      exact .of_is (ReprIs.str x t hk) _ _ _
/-- the addresses that a repr goes through: the value's own ones, and empty tuples of the module -/
def Mine (K : PySem.W.Frag) (bs cs : List Addr) : Prop := ∀ c ∈ cs, c ∈ bs ∨ KTup K c
theorem Mine.not {bs cs : List Addr} {a : Addr} (I : Inv X pins σ H s) (m : Mine X.K bs cs) {o : HO} (h : H a = some o) (na : a ∉ bs) : a ∉ cs := fun z => by
  rcases m a z with q | ⟨ob, _, _, e, _⟩
  · exact na q
  · have e2 := (I.bs a ob (I.ok.mod.kin a ob e)).2
    rw [h] at e2
    cases e2
mutual
theorem Dt.repr (I : Inv X pins σ H s) : ∀ {v : V} {x : Tr} {n : Nat} {bs : List Addr} {u : Value}, Dt X.K H v x n bs → RelV v u → ∃ cs, Mine X.K bs cs ∧ ReprK X.prog X.w cs s.heap n u x.text
  | _, _, _, _, _, .non, r => by
    cases r
    exact ⟨[], (fun _ h => nomatch h), .of_is ReprIs.none _ _ _⟩
  | _, _, _, _, _, .bl b, r => by
    cases r
    exact ⟨[], (fun _ h => nomatch h), .of_is (ReprIs.bool b) _ _ _⟩
  | _, _, _, _, _, .int h, r => by
    obtain ⟨t, rfl⟩ := r
    exact ⟨[], (fun _ h => nomatch h), .of_is (ReprIs.int t h) _ _ _⟩
  | _, _, _, _, _, .str h hz, r => by
    obtain ⟨t, rfl⟩ := r
    exact ⟨[], (fun _ h => nomatch h), .of_is (ReprIs.str _ t h) _ _ _⟩
  | _, _, _, _, _, .lst (a := a) h rs na, r => by
    cases r
    obtain ⟨z, its, n', rv, e⟩ := I.hok _ _ h
    obtain ⟨cs, m, q⟩ := DtAll.repr I rs rv
    refine ⟨a :: cs, fun c hc => (List.mem_cons.mp hc).elim (fun q => .inl (q ▸ List.mem_cons_self)) fun q => (m c q).imp_left (List.mem_cons_of_mem _), ?_⟩
    have na' := m.not I h na
    cases its with
    | nil =>
      cases rv
      cases rs
      have e2 : listText [] = "[]" := listText_nil
      show ReprK _ _ _ _ _ _ (listText [])
      rw [e2]
      exact (ReprK.listEmpty e rfl rfl).more fun b hb => List.mem_cons.mpr (.inl (List.mem_singleton.mp hb))
    | cons y ys => exact ReprK.list e rfl rfl na' (by simpa using q.length_eq) fun i y' e' => q.item i y' (by simpa using e')
  | _, _, _, _, _, .emp (a := a) h, r => by
    cases r
    obtain ⟨its, rv, ⟨o, e, c, n', d⟩, _⟩ := I.tuple (.inr h)
    cases rv
    exact ⟨[a], (fun c hc => .inr (List.mem_singleton.mp hc ▸ h)), ReprK.tuple e c d (by simp) .nil⟩
  | _, _, _, _, _, .tup (a := a) h nd rs na, r => by
    cases r
    obtain ⟨_, z, its, rv, o, e, c, n', d⟩ := I.hok _ _ h
    obtain ⟨cs, m, q⟩ := DtAll.repr I rs rv
    exact ⟨a :: cs, (fun c hc => (List.mem_cons.mp hc).elim (fun q => .inl (q ▸ List.mem_cons_self)) fun q => (m c q).imp_left (List.mem_cons_of_mem _)), ReprK.tuple e c d (m.not I h na) (by simpa using q)⟩
  | _, _, _, _, _, .dct (a := a) h kf rs na, r => by
    cases r
    obtain ⟨z, hs, vs, kv, o, es, ep, e, ex, d, ko, ps, nd⟩ := I.hok _ _ h
    obtain ⟨_, q2, q3⟩ := pairs_keys (h := s.heap) (bs := []) (n := 0) kv ps kf
    obtain ⟨cs, m, q⟩ := DtAll.repr I rs q3
    obtain ⟨q1, _, _⟩ := pairs_keys kv ps kf
    refine ⟨a :: cs, (fun c hc => (List.mem_cons.mp hc).elim (fun q => .inl (q ▸ List.mem_cons_self)) fun q => (m c q).imp_left (List.mem_cons_of_mem _)), ReprK.dict e ex.1 d hs (m.not I h na) (ReprEntriesK.of_two es.toList _ _ q1 ?_)⟩
    rw [q2]
    exact q
theorem DtAll.repr (I : Inv X pins σ H s) : ∀ {vs : List V} {xs : List Tr} {n : Nat} {bs : List Addr} {us : List Value}, DtAll X.K H vs xs n bs → Vals vs us → ∃ cs, Mine X.K bs cs ∧ ReprAllK X.prog X.w cs s.heap n us (texts xs)
  | _, _, _, _, _, .nil, .nil => ⟨[], (fun _ h => nomatch h), .nil⟩
  | _, _, _, _, _, .cons (bs := b1) (cs := b2) h rs, .cons r t => by
    obtain ⟨c1, m1, q1⟩ := Dt.repr I h r
    obtain ⟨c2, m2, q2⟩ := DtAll.repr I rs t
    exact ⟨c1 ++ c2, (fun c hc => (List.mem_append.mp hc).elim (fun q => (m1 c q).imp_left (List.mem_append_left _)) fun q => (m2 c q).imp_left (List.mem_append_right _)),
      .cons (q1.more fun b hb => List.mem_append_left _ hb) (q2.more_le (fun b hb => List.mem_append_right _ hb) (Nat.le_refl _))⟩
end
/-- repr(data) -/
def rRepr (K : PySem.W.Frag) : List V → Hp → VK → Prop := fun xs H Q => ∃ (v : V) (t : Tr) (n : Nat) (bs : List Addr), xs = [v] ∧ Dt K H v t n bs ∧ n ≤ 8 ∧ t.text.length ≤ sizeLine ∧ Q (.str t.text) H
theorem call_reprT (hg : X.A.guards = some []) (hu : X.A.units + 16 < cLine) : CallR X (.builtin "repr") (rRepr X.K) := by
  intro pins s σ H xs us Q I r h
  obtain ⟨v, t, n, bs, rfl, d, hn, hx, q⟩ := h
  obtain ⟨u, rfl, rv⟩ := vals1 r
  have fin : ∀ (h' : Heap) (tk : Tok) (k : Nat), (∀ b o, s.heap.get? b = some o → h'.get? b = some o) → EP X pins σ Q (.str t.text tk) { s with heap := h', toks := k } := fun h' tk k kk => ⟨.str t.text, H, I.kept kk, ⟨tk, rfl⟩, q⟩
  cases d with
  | non =>
    cases rv
    exact PySem.P.repr_of_none (fin s.heap _ _ fun _ _ e => e)
  | bl b =>
    cases rv
    exact PySem.P.repr_of_bool (fin s.heap _ _ fun _ _ e => e)
  | int hi =>
    obtain ⟨t, rfl⟩ := rv
    exact PySem.P.repr_of_int hi (fin s.heap _ _ fun _ _ e => e)
  | str hz _ =>
    obtain ⟨t, rfl⟩ := rv
    exact PySem.P.repr_of_str (fin s.heap _ _ fun _ _ e => e) hz
  | @lst n0 a xs ts bs hl rs na =>
    cases rv
    obtain ⟨z, its, n', rv', e⟩ := I.hok _ _ hl
    obtain ⟨cs, m, k⟩ := DtAll.repr I rs rv'
    have na' := m.not I hl na
    refine call_repr_slot (by omega) ⟨_, e, rfl⟩ PySem.F.slot_list_repr.toG ?_
    cases its with
    | nil =>
      cases rv'
      cases rs
      exact call_list_repr_empty ⟨_, e, rfl⟩ e rfl ⟨_, _, rfl, fin s.heap _ _ fun _ _ q => q⟩
    | cons y ys =>
      exact call_list_reprK e rfl rfl na' (by simpa using k.length_eq) (fun i y' e' => k.item i y' (by simpa using e')) (g := []) hg (fun b _ => Clear.nil b) (by show X.A.units + 1 + _ < _; omega) (fun _ _ q => q)
        (fun h' t tk kk => ⟨_, _, rfl, fin h' t tk kk⟩) hx
  | @emp n0 a h =>
    cases rv
    obtain ⟨its, rv', ⟨o, e, c, n', dd⟩, _⟩ := I.tuple (.inr h)
    cases rv'
    exact call_repr_slot (by omega) ⟨_, e, c⟩ PySem.F.slot_tuple_repr
      (call_tuple_reprK (as := []) (d := 0) e c dd (by simp) .nil (g := []) hg (fun b _ => Clear.nil b) (by show X.A.units + 1 + _ < _; omega) (fun _ _ q => q) (fun h' t tk kk => ⟨_, _, rfl, fin h' t tk kk⟩) hx)
  | @tup n0 a ob xs ts bs hl nd rs na =>
    cases rv
    obtain ⟨_, z, its, rv', o, e, c, n', dd⟩ := I.hok _ _ hl
    obtain ⟨cs, m, k⟩ := DtAll.repr I rs rv'
    exact call_repr_slot (by omega) ⟨_, e, c⟩ PySem.F.slot_tuple_repr
      (call_tuple_reprK e c dd (m.not I hl na) (by simpa using k) (g := []) hg (fun b _ => Clear.nil b) (by show X.A.units + 1 + _ < _; omega) (fun _ _ q => q) (fun h' t tk kk => ⟨_, _, rfl, fin h' t tk kk⟩) hx)
  | @dct n0 a kvs ts bs hl kf rs na =>
    cases rv
    obtain ⟨z, hs, vs, kv, o, es, ep, e, ex, dd, ko, ps, nd⟩ := I.hok _ _ hl
    obtain ⟨_, q2, q3⟩ := pairs_keys (h := s.heap) (bs := []) (n := 0) kv ps kf
    obtain ⟨cs, m, k⟩ := DtAll.repr I rs q3
    obtain ⟨q1, _, _⟩ := pairs_keys kv ps kf
    refine call_repr_slot (by omega) ⟨_, e, ex.1⟩ PySem.F.slot_dict_repr
      (call_dict_reprK (d := n0) (as := cs) e ex.1 dd hs (m.not I hl na) (ReprEntriesK.of_two es.toList _ _ q1 ?_) (g := []) hg (fun b _ => Clear.nil b) (by show X.A.units + 1 + _ < _; omega) (fun _ _ q => q) (fun h' t tk kk => ⟨_, _, rfl, fin h' t tk kk⟩) hx)
    rw [q2]
    exact k
end
/-- a tuple among the data -/
theorem Dt.tupOf {K : PySem.W.Frag} {H : Hp} {v : V} {t : Tr} {n : Nat} {bs : List Addr} (d : Dt K H v t n bs) (h : isTup t = true) : ∃ (a : Addr) (xs : List V) (ts : List Tr) (m : Nat) (cs : List Addr), v = .ref a ∧ t = .tup ts ∧ m < n ∧ SqT K H a xs ∧ DtAll K H xs ts m cs ∧ ∀ c ∈ cs, c ∈ bs := by
  cases d with
  | @tup n a ob xs ts bs e nd r na => exact ⟨a, xs, ts, n, bs, rfl, rfl, Nat.lt_succ_self _, .inl (.inr ⟨_, e⟩), r, fun c hc => List.mem_cons_of_mem _ hc⟩
  | @emp n a e => exact ⟨a, [], [], n, [], rfl, rfl, Nat.lt_succ_self _, .inr e, .nil, fun _ h => nomatch h⟩
  | _ => cases h
/-- a tuple: the module's empty one, or one that was made here, whose object has no dict -/
def TupE (K : PySem.W.Frag) (H : Hp) (a : Addr) (xs : List V) : Prop := (xs = [] ∧ KTup K a) ∨ ∃ o : Obj, H a = some (.frz o (.tup xs)) ∧ o.dict = none
theorem TupE.sq {K : PySem.W.Frag} {H : Hp} {a : Addr} {xs : List V} (h : TupE K H a xs) : SqT K H a xs := by
  rcases h with ⟨rfl, h⟩ | ⟨o, h, _⟩
  · exact .inr h
  · exact .inl (.inr ⟨o, h⟩)
theorem TupE.same {K : PySem.W.Frag} {H H' : Hp} {a : Addr} {xs : List V} (k : Same H H') (h : TupE K H a xs) : TupE K H' a xs := h.imp id fun ⟨o, h, d⟩ => ⟨o, k _ _ h, d⟩
theorem Dt.tupD {K : PySem.W.Frag} {H : Hp} {v : V} {t : Tr} {n : Nat} {bs : List Addr} (d : Dt K H v t n bs) (h : isTup t = true) : ∃ (a : Addr) (xs : List V) (ts : List Tr) (m : Nat) (cs : List Addr), v = .ref a ∧ t = .tup ts ∧ m < n ∧ TupE K H a xs ∧ DtAll K H xs ts m cs ∧ ∀ c ∈ cs, c ∈ bs := by
  cases d with
  | @tup n a ob xs ts bs e nd r na => exact ⟨a, xs, ts, n, bs, rfl, rfl, Nat.lt_succ_self _, .inr ⟨_, e, nd⟩, r, fun c hc => List.mem_cons_of_mem _ hc⟩
  | @emp n a e => exact ⟨a, [], [], n, [], rfl, rfl, Nat.lt_succ_self _, .inl ⟨rfl, e⟩, .nil, fun _ h => nomatch h⟩
  | _ => cases h
end Vm
namespace Vm
open PySem L2
/-! names -/
def lowB (c : Nat) : Bool := decide (97 ≤ c) && decide (c ≤ 122)
/-- one to eight letters a to z -/
def nmS (x : Str) : Bool := decide (1 ≤ x.length) && (decide (x.length ≤ 8) && x.cps.toList.all lowB)
def isNm : Tr → Bool
  | .str x => nmS x
  | _ => false
def ascB (c : Nat) : Bool := Unicode.isAlpha c == (decide (65 ≤ c) && decide (c ≤ 90) || lowB c) && (Unicode.isLower c == lowB c && ((Unicode.isUpper c || Unicode.isTitle c) == (decide (65 ≤ c) && decide (c ≤ 90))))
theorem asc_all : (List.range 128).all ascB = true := by decide +kernel
theorem asc_of {c : Nat} (h : c < 128) : Unicode.isAlpha c = (decide (65 ≤ c) && decide (c ≤ 90) || lowB c) ∧ Unicode.isLower c = lowB c ∧ (Unicode.isUpper c || Unicode.isTitle c) = (decide (65 ≤ c) && decide (c ≤ 90)) := by
  have z := List.all_eq_true.mp asc_all c (List.mem_range.mpr h)
  unfold ascB at z
  rw [Bool.and_eq_true, Bool.and_eq_true, beq_iff_eq, beq_iff_eq, beq_iff_eq] at z
  exact z
theorem low_all : ∀ l : List Nat, (l.all (fun c => decide (c < 128)) && (l.all Unicode.isAlpha && !l.any fun c => Unicode.isUpper c || Unicode.isTitle c)) = l.all lowB
  | [] => rfl
  | c :: r => by
    have ih := low_all r
    rw [List.all_cons, List.all_cons, List.any_cons, List.all_cons, ← ih]
    by_cases h : c < 128
    · obtain ⟨h1, h2, h3⟩ := asc_of h
      rw [h1, h3, decide_eq_true h]
      unfold lowB
      by_cases a1 : 65 ≤ c <;> by_cases a2 : c ≤ 90 <;> by_cases a3 : 97 ≤ c <;> by_cases a4 : c ≤ 122 <;> simp [a1, a2, a3, a4] <;> omega
    · have e : lowB c = false := by
        unfold lowB
        rw [decide_eq_false (show ¬ c ≤ 122 by omega), Bool.and_false]
      rw [decide_eq_false h, e]
      simp
theorem any_low : ∀ l : List Nat, l ≠ [] → l.all lowB = true → l.any Unicode.isLower = true
  | [], h, _ => absurd rfl h
  | c :: r, _, h => by
    rw [List.all_cons, Bool.and_eq_true] at h
    have c1 : lowB c = true := h.1
    have lt : c < 128 := by
      unfold lowB at c1
      rw [Bool.and_eq_true, decide_eq_true_eq, decide_eq_true_eq] at c1
      omega
    rw [List.any_cons, (asc_of lt).2.1, c1, Bool.true_or]
/-- what the program asks of a text of at most eight signs -/
theorem nm_prog {x : Str} (h : x.length ≤ 8) : (Txt.isascii x && (Txt.isalpha x && Txt.islower x)) = nmS x := by
  have e1 := low_all x.cps.toList
  have e2 := any_low x.cps.toList
  have l : x.length = x.cps.toList.length := by
    show x.cps.size = _
    simp
  have f1 : Txt.isascii x = x.cps.toList.all (fun c => decide (c < 128)) := by
    unfold Txt.isascii
    rw [← Array.all_toList]
  have f2 : Txt.isalpha x = (decide (x.length > 0) && x.cps.toList.all Unicode.isAlpha) := by
    unfold Txt.isalpha
    rw [← Array.all_toList]
  have f3 : Txt.islower x = (x.cps.toList.any Unicode.isLower && !x.cps.toList.any fun c => Unicode.isUpper c || Unicode.isTitle c) := by
    unfold Txt.islower
    rw [← Array.any_toList, ← Array.any_toList]
  unfold nmS
  rw [f1, f2, f3, decide_eq_true h, Bool.true_and, l]
  generalize x.cps.toList = L at e1 e2 ⊢
  cases L with
  | nil => rfl
  | cons c r =>
    have p : decide ((c :: r).length > 0) = true := decide_eq_true (by simp)
    have p2 : decide (1 ≤ (c :: r).length) = true := decide_eq_true (by simp)
    rw [p, p2, Bool.true_and, Bool.true_and]
    cases d : (c :: r).all lowB with
    | true =>
      rw [e2 (by simp) d, Bool.true_and, e1, d]
    | false =>
      rw [d] at e1
      revert e1
      cases (c :: r).all (fun c => decide (c < 128)) <;> cases (c :: r).all Unicode.isAlpha <;> cases (c :: r).any Unicode.isLower <;> cases (c :: r).any (fun c => Unicode.isUpper c || Unicode.isTitle c) <;> simp
end Vm
namespace Vm
open PySem SeqAt MeetsSeq
open AutoSeq1 (wpAny_loadPart')
/-! a dict and a text are never equal -/
abbrev dob (dd : Option Addr) (es : Array DictEntry) (n : Nat) (sl : Array (Option Value)) : Obj := { cls := .type "dict", dict := dd, data := .dict es n, slots := sl }
theorem str_no_dict (b : Str) (u : Tok) (l : Addr) (dd : Option Addr) (es : Array DictEntry) (n : Nat) (sl : Array (Option Value)) : Meets (Builtin.«str.__eq__» ⟨[.str b u, .ref l], []⟩) (fun _ R s => s.heap.get? l = some (dob dd es n sl) ∧ R (.ok (.ret .notImplemented)) s) :=
  .of_wp fun prog w A R s h => by
    obtain ⟨hp, g, d, tk, os⟩ := s
    obtain ⟨hl, h⟩ := h
    have f1 := F.sub_dict_str
    wp_walk using wpAny_loadPart' hl, wpAny_load hl
    exact ⟨_, rfl, h⟩
theorem dict_no_str (l : Addr) (dd : Option Addr) (es : Array DictEntry) (n : Nat) (sl : Array (Option Value)) (b : Str) (u : Tok) : Meets (Builtin.«dict.__eq__» ⟨[.ref l, .str b u], []⟩) (fun _ R s => s.heap.get? l = some (dob dd es n sl) ∧ R (.ok (.ret .notImplemented)) s) :=
  .of_wp fun prog w A R s h => by
    obtain ⟨hp, g, d, tk, os⟩ := s
    obtain ⟨hl, h⟩ := h
    have ty : (⟨hp, g, d, tk, os⟩ : Shared).TypeIs (.ref l) "dict" := ⟨_, hl, rfl⟩
    have f1 := F.sub_str_dict
    show wpAny _ _ (Builtin.Dict.dictSlotArgs "__eq__" ⟨[.ref l, .str b u], []⟩ >>= _) _ _ _
    refine wpAny_bind ?_
    unfold Builtin.Dict.dictSlotArgs
    refine wpAny_bind (wpAny_notOrdered_dict ty ?_)
    refine wpAny_pure ?_
    refine wpAny_bind (wpAny_isInstance (T := "str") (typeIs_str _ b u) f1 ?_)
    simp only [Bool.not_false, if_true]
    wp_walk
    exact ⟨_, rfl, h⟩
section
variable {A : Around} {s : Shared}
theorem rc_dict_str {l : Addr} {dd : Option Addr} {es : Array DictEntry} {n : Nat} {sl : Array (Option Value)} (b : Str) (u : Tok) (ho : s.heap.get? l = some (dob dd es n sl)) (hu : A.units < cLine) : RcAt A s (.ref l) (.str b u) false := fun prog w E Q h =>
  rc_eq_decline_or (k := false) ⟨_, ho, rfl⟩ (typeIs_str s b u) (by decide) F.sub_str_dict F.slot_dict_eq F.slot_str_eq_refl
    (fun _ q => call_meets F.slot_dict_eq ⟨_, ho, rfl⟩ F.entry_dict_eq (F.args_dict_eq_2 _ _) (dict_no_str l dd es n sl b u) ⟨ho, q⟩)
    (fun _ q => call_meets F.slot_str_eq_refl (typeIs_str s b u) F.entry_str_eq (F.args_str_eq_2 _ _) (str_no_dict b u l dd es n sl) ⟨ho, q⟩)
    (fun _ q => wpAny_of_eq (rfl : isSame (.ref l) (.str b u) = pure false) q) (.inr hu) h
theorem eq_dict_str {l : Addr} {o : Obj} {es : Array DictEntry} {n : Nat} (b : Str) (u : Tok) (ho : s.heap.get? l = some o) (hc : o.cls = .type "dict") (hd : o.data = .dict es n) (hu : A.units < cLine) : EqAt A s (.ref l) (.str b u) false := fun prog w E Q h => by
  obtain ⟨c, dd, dt, sl⟩ := o
  dsimp only at hc hd
  subst hc hd
  unfold eqBool
  refine wpAny_holding (wpAny_ite_split (fun hab => absurd (eq_of_beq hab) nofun) fun _ => ?_)
  exact wpAny_bind (rc_dict_str b u ho hu prog w E _ (wpAny_truthy_bool h))
end
open L2
/-- the tree is this text -/
def isS (x : Str) : Tr → Bool
  | .str y => y == x
  | _ => false
/-- any data beside a text -/
theorem Dt.eqStr {X : Cx} {pins : List (Addr × Obj)} {σ : St} {H : Hp} {s : Shared} {A : Around} (I : Inv X pins σ H s) {v : V} {t : Tr} {n : Nat} {bs : List Addr} {u : Value} (d : Dt X.K H v t n bs) (r : RelV v u) (x : Str) (k : Tok) (hu : A.units < cLine) : EqAt A s u (.str x k) (isS x t) := by
  cases d with
  | non =>
    cases r
    exact .none_str x k
  | bl b =>
    cases r
    exact .bool_str b x k
  | int h =>
    obtain ⟨t, rfl⟩ := r
    exact .int_str _ t x k
  | str h _ =>
    obtain ⟨t, rfl⟩ := r
    exact .str_str _ t x k
  | lst h rs na =>
    cases r
    obtain ⟨its, rv, pl, _⟩ := I.list (.inl (.inl h))
    exact .list_str x k pl.isList hu
  | emp h =>
    cases r
    obtain ⟨its, rv, pl, _⟩ := I.tuple (.inr h)
    exact .tuple_str x k pl hu
  | tup h nd rs na =>
    cases r
    obtain ⟨its, rv, pl, _⟩ := I.tuple (.inl (.inr ⟨_, h⟩))
    exact .tuple_str x k pl hu
  | dct h kf rs na =>
    cases r
    obtain ⟨z, hs, vs, kv, o, es, ep, e, ex, dd, _⟩ := I.hok _ _ h
    exact eq_dict_str x k e ex.1 dd hu
end Vm
namespace Vm
open PySem L2
def valS (x : Str) : Value → Bool
  | .str y _ => y == x
  | _ => false
theorem Dt.valS {K : PySem.W.Frag} {H : Hp} {v : V} {t : Tr} {n : Nat} {bs : List Addr} {u : Value} (d : Dt K H v t n bs) (r : RelV v u) (x : Str) : valS x u = isS x t := by
  cases d with
  | str h _ =>
    obtain ⟨t, rfl⟩ := r
    rfl
  | int h =>
    obtain ⟨t, rfl⟩ := r
    rfl
  | _ => cases r <;> rfl
theorem DtAll.anyS {K : PySem.W.Frag} {H : Hp} (x : Str) : ∀ {vs : List V} {ts : List Tr} {n : Nat} {bs : List Addr} {us : List Value}, DtAll K H vs ts n bs → Vals vs us → us.any (Vm.valS x) = ts.any (isS x)
  | _, _, _, _, _, .nil, .nil => rfl
  | _, _, _, _, _, .cons h r, .cons q s => by rw [List.any_cons, List.any_cons, h.valS q, r.anyS x s]
/-- ts are the texts ss -/
def sameS : List Tr → List Str → Bool
  | [], [] => true
  | t :: r, z :: s => isS z t && sameS r s
  | _, _ => false
def atS (ts : List Tr) (ss : List Str) (j : Nat) : Bool := match ts[j]?, ss[j]? with
  | some t, some z => isS z t
  | _, _ => true
theorem all_atS : ∀ (ts : List Tr) (ss : List Str), ((List.range (min ts.length ss.length)).all (atS ts ss) && ts.length == ss.length) = sameS ts ss
  | [], [] => rfl
  | [], z :: s => by simp [sameS]
  | t :: r, [] => by simp [sameS]
  | t :: r, z :: s => by
    have ih := all_atS r s
    have e : min (t :: r).length (z :: s).length = min r.length s.length + 1 := by
      simp only [List.length_cons]
      omega
    rw [e, List.range_succ_eq_map, List.all_cons, List.all_map]
    have e2 : (atS (t :: r) (z :: s) ∘ Nat.succ) = atS r s := by
      funext j
      simp [atS]
    have e3 : ((t :: r).length == (z :: s).length) = (r.length == s.length) := by
      simp only [List.length_cons]
      by_cases h : r.length = s.length
      · rw [h]
        simp
      · have h2 : ¬ r.length + 1 = s.length + 1 := by omega
        rw [beq_eq_false_iff_ne.mpr h, beq_eq_false_iff_ne.mpr h2]
    rw [e2, e3]
    show ((isS z t && _) && _) = (isS z t && sameS r s)
    rw [← ih, Bool.and_assoc]
section
variable {X : Cx}
def rInD (K : PySem.W.Frag) (neg : Bool) : R2 := fun x y H Q => ∃ (z : Str) (p : Addr) (xs : List V) (ts : List Tr) (n : Nat) (bs : List Addr), x = .str z ∧ y = .ref p ∧ SqT K H p xs ∧ DtAll K H xs ts n bs ∧ Q (.bl (if neg then !ts.any (isS z) else ts.any (isS z))) H
theorem op_inD {K : PySem.W.Frag} (eK : X.K = K) (hu : X.A.units + 1 < cLine) : OpR X (compareOp .In) (rInD K false) := by
  subst eK
  intro pins s σ H x y v u Q I rx ry h
  obtain ⟨z, p, xs, ts, n, bs, rfl, rfl, hp, d, q⟩ := h
  obtain ⟨k, rfl⟩ := rx
  cases ry
  obtain ⟨its, r, pl, hz⟩ := I.tuple hp
  refine SeqAt.in_tupleAt (valS z) pl (fun y hy => ?_) ⟨.bl _, H, I, rfl, ?_⟩
  · have hy' : y ∈ its := by simpa using hy
    obtain ⟨i, hi, e⟩ := List.mem_iff_getElem.mp hy'
    have e' : its[i]? = some y := by rw [List.getElem?_eq_getElem hi, e]
    have hi2 : i < xs.length := by rw [r.length]; exact hi
    obtain ⟨u, h1, h2⟩ := r.get (List.getElem?_eq_getElem hi2)
    rw [e'] at h1
    cases h1
    obtain ⟨t, cs, _, dt, _⟩ := d.get (List.getElem?_eq_getElem hi2)
    rw [dt.valS h2]
    exact dt.eqStr I h2 z k (by show X.A.units + 1 < cLine; exact hu)
  · rw [show its.toArray.any (valS z) = its.any (valS z) by simp, d.anyS z r]
    exact q
def rEqTS (K : PySem.W.Frag) : R2 := fun x y H Q => ∃ (p q : Addr) (xs : List V) (ts : List Tr) (n : Nat) (bs : List Addr) (ss : List Str), x = .ref p ∧ y = .ref q ∧ SqT K H p xs ∧ DtAll K H xs ts n bs ∧ SqT K H q (ss.map V.str) ∧ Q (.bl (sameS ts ss)) H
theorem op_eqTS (hu : X.A.units + 1 < cLine) : OpR X (compareOp .Eq) (rEqTS X.K) := by
  intro pins s σ H x y v u Q I rx ry h
  obtain ⟨p, q, xs, ts, n, bs, ss, rfl, rfl, hp, d, hq, k⟩ := h
  cases rx
  cases ry
  obtain ⟨its, r, pl, hz⟩ := I.tuple hp
  obtain ⟨its2, r2, pl2, hz2⟩ := I.tuple hq
  have l1 : its.length = ts.length := by rw [← r.length, d.length]
  have l2 : its2.length = ss.length := by rw [← r2.length, List.length_map]
  refine SeqAt.eq_tupleAt (e := atS ts ss) pl pl2 (by omega) (fun j h1 h2 => ?_) ⟨.bl _, H, I, rfl, ?_⟩
  · have h1' : j < its.length := by simpa using h1
    have h2' : j < its2.length := by simpa using h2
    have j1 : j < xs.length := by rw [r.length]; exact h1'
    have j2 : j < (ss.map V.str).length := by rw [r2.length]; exact h2'
    obtain ⟨u, a1, a2⟩ := r.get (List.getElem?_eq_getElem j1)
    obtain ⟨u2, b1, b2⟩ := r2.get (List.getElem?_eq_getElem j2)
    obtain ⟨t, cs, et, dt, _⟩ := d.get (List.getElem?_eq_getElem j1)
    have j3 : j < ss.length := by simpa using j2
    rw [List.getElem_map] at b2
    obtain ⟨k2, rfl⟩ := b2
    have c1 : its.toArray[j] = u := by
      have := List.getElem?_eq_getElem h1'
      rw [a1] at this
      simpa using (Option.some.inj this).symm
    have c2 : its2.toArray[j] = Value.str ss[j] k2 := by
      have := List.getElem?_eq_getElem h2'
      rw [b1] at this
      simpa using (Option.some.inj this).symm
    rw [c1, c2]
    have e : atS ts ss j = isS ss[j] t := by
      unfold atS
      rw [et, List.getElem?_eq_getElem j3]
    rw [e]
    exact dt.eqStr I a2 _ k2 hu
  · have e : ((List.range (min its.toArray.size its2.toArray.size)).all (atS ts ss) && its.toArray.size == its2.toArray.size) = sameS ts ss := by
      rw [← all_atS, List.size_toArray, List.size_toArray, l1, l2]
    rw [e]
    exact k
end
end Vm
namespace Vm
open PySem L2
abbrev sIsNum : Stmt := top 10
abbrev sIsName : Stmt := top 15
abbrev sAreCols : Stmt := top 18
abbrev sAreNames : Stmt := top 19
abbrev sIsKey : Stmt := top 20
theorem ite_ {c : Prop} [Decidable c] {A B : Prop} (h1 : c → A) (h2 : ¬ c → B) : if decide c = true then A else B := by
  by_cases h : c
  · rw [if_pos (decide_eq_true h)]
    exact h1 h
  · rw [if_neg (by simpa using h)]
    exact h2 h
theorem iteB {b : Bool} {A B : Prop} (h1 : b = true → A) (h2 : b = false → B) : if b = true then A else B := by
  cases b with
  | true => exact iteT (h1 rfl)
  | false => exact iteF (h2 rfl)
theorem sameT {K : PySem.W.Frag} {H H' : Hp} {a : Addr} {xs : List V} (k : Same H H') (h : SqT K H a xs) : SqT K H' a xs := by
  rcases h with (h | ⟨o, h⟩) | h
  · exact .inl (.inl (k _ _ h))
  · exact .inl (.inr ⟨o, k _ _ h⟩)
  · exact .inr h
theorem same_upd {H : Hp} {a : Addr} {o : HO} (h : H a = none) : Same H (upd H a o) := fun b u e => by
  rw [upd_ne (ne_of_none e h)]
  exact e
theorem Dt.same {K : PySem.W.Frag} {H H' : Hp} {v : V} {t : Tr} {n : Nat} {bs : List Addr} (d : Dt K H v t n bs) (k : Same H H') : Dt K H' v t n bs := d.keep fun b _ o e => k b o e
theorem DtAll.same {K : PySem.W.Frag} {H H' : Hp} {v : List V} {t : List Tr} {n : Nat} {bs : List Addr} (d : DtAll K H v t n bs) (k : Same H H') : DtAll K H' v t n bs := d.keep fun b _ o e => k b o e
def isNum : Tr → Bool
  | .int _ => true
  | _ => false
def areNms : Tr → Bool
  | .tup ts => decide (ts.length ≤ 2) && ts.all isNm
  | _ => false
def isKey (t : Tr) (ss : List Str) : Bool := match t with
  | .tup ts => sameS ts (ss.filter fun z => ts.any (isS z))
  | _ => false
/-- a test of any data -/
def spTest (K : PySem.W.Frag) (f : Tr → Bool) : Sp := fun vs H Q _ => ∃ (v : V) (t : Tr) (n : Nat) (bs : List Addr), vs = [v] ∧ Dt K H v t n bs ∧ ∀ H', Same H H' → Q (.bl (f t)) H'
def spKey (K : PySem.W.Frag) : Sp := fun vs H Q _ => ∃ (v : V) (t : Tr) (n : Nat) (bs : List Addr) (c : Addr) (ss : List Str), vs = [v, .ref c] ∧ Dt K H v t n bs ∧ SqT K H c (ss.map V.str) ∧ ss.length ≤ 4 ∧ ∀ H', Same H H' → Q (.bl (isKey t ss)) H'
structure TxtP (K : PySem.W.Frag) (mg : Str → Option Value) (fNm fNms : Addr) : Prop where
  isi : mg "isinstance" = none
  int : mg "int" = none
  bool : mg "bool" = none
  str : mg "str" = none
  tuple : mg "tuple" = none
  len : mg "len" = none
  all : mg "all" = none
  set : mg "set" = none
  long : ∃ t, mg "_LONGEST_NAME" = some (.int 8 t)
  most : ∃ t, mg "_MOST_COLUMNS" = some (.int 2 t)
  gNm : mg "is_name" = some (.ref fNm)
  kNm : PySem.W.keepIn K (.ref fNm) = true
  gNms : mg "_are_names" = some (.ref fNms)
  kNms : PySem.W.keepIn K (.ref fNms) = true
section
variable {P : Program} {w : World} {K : PySem.W.Frag} {mg : Str → Option Value} {base : Heap} {fNm fNms : Addr} {fdNm fdNms : FuncData}
theorem scIsNum : FnScope ["thing"] ["thing"] (defScope sIsNum) := ⟨rfl, rfl, rfl, by decide +kernel, rfl, by decide +kernel, by decide +kernel⟩
theorem ok_isnum {f : Addr} {fd : FuncData} (F : Fun K "is_number" "is_number" sIsNum f fd) (T : TxtP K mg fNm fNms) : FnOk P w K mg base CX0 1 f fd ["thing"] (spTest K isNum) := by
  refine F.ok scIsNum (fun vs H Q E h => ?_) (fun cdv A outer s H vs Q E hr h => ?_)
  · obtain ⟨v, t, n, bs, rfl, _⟩ := h
    rfl
  · obtain ⟨v, t, n, bs, rfl, d, k⟩ := h
    refine ⟨_, pss_one (ps_ret (pe_and (pe_callB call_isi (by rfl) T.isi (by decide +kernel) (pa_cons (pv 0) (pa_cons (pe_bltn (v := .ty "int") (by rfl) T.int (by decide +kernel) rfl) pa_nil)))
      (pe_one (pe_not (pe_callB call_isi (by rfl) T.isi (by decide +kernel) (pa_cons (pv 0) (pa_cons (pe_bltn (v := .ty "bool") (by rfl) T.bool (by decide +kernel) rfl) pa_nil))))))), ?_⟩
    refine ⟨_, rfl, v, _, _, _, isInt t, rfl, .ty _, d.ty, kit_int t, _, rfl, ?_⟩
    refine iteB (fun e => ?_) (fun e => ?_)
    · refine ⟨_, rfl, v, _, _, _, isBl t, rfl, .ty _, d.ty, kit_bl t, _, rfl, ?_⟩
      have z : (!isBl t) = isNum t := by
        cases t <;> first | rfl | cases e
      rw [z]
      exact k H (Same.refl H)
    · have z : false = isNum t := by
        cases t <;> first | rfl | cases e
      rw [z]
      exact k H (Same.refl H)
theorem scIsName : FnScope ["thing"] ["thing"] (defScope sIsName) := ⟨rfl, rfl, rfl, by decide +kernel, rfl, by decide +kernel, by decide +kernel⟩
theorem ok_isname {f : Addr} {fd : FuncData} (F : Fun K "is_name" "is_name" sIsName f fd) (T : TxtP K mg fNm fNms) : FnOk P w K mg base CX0 1 f fd ["thing"] (spTest K isNm) := by
  refine F.ok scIsName (fun vs H Q E h => ?_) (fun cdv A outer s H vs Q E hr h => ?_)
  · obtain ⟨v, t, n, bs, rfl, _⟩ := h
    rfl
  · obtain ⟨v, t, n, bs, rfl, d, k⟩ := h
    obtain ⟨tk, hN⟩ := T.long
    refine ⟨_, pss_cons (ps_if (PW.pt (pw_or (pt_not (pt_truth (pe_callB call_isi (by rfl) T.isi (by decide +kernel) (pa_cons (pv 0) (pa_cons (pe_bltn (v := .ty "str") (by rfl) T.str (by decide +kernel) rfl) pa_nil))) (fun _ => rfl)))
          (pw_or1 (pt_cmpR op_gt (pe_callB call_len_str (by rfl) T.len (by decide +kernel) (pa_cons (pv 0) pa_nil)) (pe_glob (v := .int 8) rfl hN ⟨_, rfl⟩) (nomark _)))))
        (pss_one (ps_ret pe_bl)) pss_nil)
      (pss_one (ps_ret (pe_and (pe_bm0 PySem.F.plainAttrs_str PySem.F.slot_str_isascii PySem.F.type_str_isascii mt_isascii (pv 0))
        (pe_and (pe_bm0 PySem.F.plainAttrs_str PySem.F.slot_str_isalpha PySem.F.type_str_isalpha mt_isalpha (pv 0)) (pe_one (pe_bm0 PySem.F.plainAttrs_str PySem.F.slot_str_islower PySem.F.type_str_islower mt_islower (pv 0))))))), ?_⟩
    refine ⟨_, rfl, v, _, _, _, isStr t, rfl, .ty _, d.ty, kit_str t, isStr t, rfl, ?_⟩
    have no : isNm t = false → tRet (tC (.bl false)) { nx := fun _ H' => Q .non H', rt := Q } (start ["thing"] [v]) H := fun z => by
      show Q (.bl false) H
      rw [← z]
      exact k H (Same.refl H)
    cases d with
    | @str n x h hz =>
      refine iteF ?_
      refine ⟨_, rfl, x, rfl, hz, _, _, rfl, rfl, _, rfl, ?_⟩
      refine ite_ (fun e => ?_) (fun e => ?_)
      · refine no ?_
        show nmS x = false
        unfold nmS
        rw [decide_eq_false (show ¬ x.length ≤ 8 by omega), Bool.false_and, Bool.and_false]
      · have e8 : x.length ≤ 8 := by omega
        have z := nm_prog e8
        refine ⟨_, rfl, rfl, x, rfl, rfl, True.intro, _, rfl, ?_⟩
        show if Txt.isascii x = true then _ else _
        cases e1 : Txt.isascii x with
        | false =>
          rw [e1, Bool.false_and] at z
          refine iteF ?_
          rw [z]
          exact k H (Same.refl H)
        | true =>
          rw [e1, Bool.true_and] at z
          refine iteT ?_
          refine ⟨_, rfl, rfl, x, rfl, rfl, True.intro, _, rfl, ?_⟩
          cases e2 : Txt.isalpha x with
          | false =>
            rw [e2, Bool.false_and] at z
            refine iteF ?_
            rw [z]
            exact k H (Same.refl H)
          | true =>
            rw [e2, Bool.true_and] at z
            refine iteT ?_
            refine ⟨_, rfl, rfl, x, rfl, rfl, True.intro, ?_⟩
            rw [z]
            exact k H (Same.refl H)
    | _ => exact iteT (iteT (no rfl))
theorem scAreNames : FnScope ["thing", "name"] ["thing"] (defScope sAreNames) := ⟨rfl, rfl, rfl, by decide +kernel, rfl, by decide +kernel, by decide +kernel⟩
theorem ok_arenames {f : Addr} {fd : FuncData} (F : Fun K "_are_names" "_are_names" sAreNames f fd) (T : TxtP K mg fNm fNms) (GN : FnOk P w K mg base CX0 1 fNm fdNm ["thing"] (spTest K isNm)) (bN : Binds K fdNm ["thing"] []) :
    FnOk P w K mg base CX0 2 f fd ["thing"] (spTest K areNms) := by
  refine F.ok scAreNames (fun vs H Q E h => ?_) (fun cdv A outer s H vs Q E hr h => ?_)
  · obtain ⟨v, t, n, bs, rfl, _⟩ := h
    rfl
  · obtain ⟨v, t, n, bs, rfl, d, k⟩ := h
    obtain ⟨tk, hN⟩ := T.most
    refine ⟨_, pss_one (ps_ret (pe_and (pe_callB call_isi (by rfl) T.isi (by decide +kernel) (pa_cons (pv 0) (pa_cons (pe_bltn (v := .ty "tuple") (by rfl) T.tuple (by decide +kernel) rfl) pa_nil)))
      (pe_and (pe_cmpR op_le (pe_callB call_len_seq (by rfl) T.len (by decide +kernel) (pa_cons (pv 0) pa_nil)) (pe_glob (v := .int 2) rfl hN ⟨_, rfl⟩) (nomark _))
        (pe_one (pe_callB (cr_all rfl) (by rfl) T.all (by decide +kernel) (pa_cons (pe_lc (own := [("name", 1)]) (g := gName 1) (tt := tYes) rfl scAreNames.nd (pi_tup (pv 0))
          (blkOk_by (N := ["thing", "name"]) (sc := defScope sAreNames) (by decide +kernel)) (fun _ _ _ _ _ => pg_name (i := 1) scAreNames.nd rfl (Or.inl rfl)) (fun _ _ _ _ _ => pts_nil)
          (fun _ _ _ _ _ => pe_call GN hr rfl T.gNm T.kNm bN .nil pass0 (pa_cons (pv 1) pa_nil))) pa_nil)))))), ?_⟩
    refine ⟨_, rfl, v, _, _, _, isTup t, rfl, .ty _, d.ty, kit_tup t, _, rfl, ?_⟩
    have no : areNms t = false → Q (.bl false) H := fun z => by
      rw [← z]
      exact k H (Same.refl H)
    cases ht : isTup t with
    | true =>
      obtain ⟨a, xs, ts, m, cs, rfl, rfl, _, ha, r, _⟩ := d.tupOf ht
      refine iteT ?_
      have hl := r.length
      refine ⟨_, rfl, a, xs, rfl, .inr ha, _, _, rfl, rfl, _, rfl, ?_⟩
      refine ite_ (fun e => ?_) (fun e => ?_)
      · refine ⟨_, rfl, a, rfl, ⟨_, ha⟩, fun D hD => ?_⟩
        refine lc_tup (K := K) (a := a) (xs := xs) (fun i H' => Same H H' ∧ H' D = some (.lst (((ts.take i).map isNm).map V.bl))) ⟨same_upd hD, upd_same⟩ (fun i H' _ q => sameT q.1 ha) ?_ ?_
        · rintro i y H3 hi ⟨s3, e3⟩
          refine ⟨rfl, ?_⟩
          dsimp only [tYes]
          rw [if_pos rfl]
          obtain ⟨t, cs, et, dt, _⟩ := r.get hi
          have hts : i < ts.length := by
            rcases Nat.lt_or_ge i ts.length with z | z
            · exact z
            · rw [List.getElem?_eq_none z] at et
              cases et
          refine ⟨_, rfl, y, t, _, cs, rfl, dt.same s3, fun H4 s4 => ⟨_, s4 _ _ e3, ?_, fun b o e => ?_, ?_⟩⟩
          · rw [List.length_map, List.length_map, List.length_take]
            have : sizeLine > 4 := by decide
            omega
          · rw [upd_ne (ne_of_none e hD)]
            exact s4 b o (s3 b o e)
          · rw [upd_same, List.take_add_one, et]
            simp
        · rintro H3 ⟨s3, e3⟩
          refine ⟨D, (ts.take xs.length).map isNm, rfl, SqL.of e3, ?_⟩
          have z : (((ts.take xs.length).map isNm).all id) = areNms (.tup ts) := by
            rw [hl, List.take_length]
            show _ = (decide (ts.length ≤ 2) && ts.all isNm)
            rw [decide_eq_true (by omega), Bool.true_and, List.all_map]
            rfl
          rw [z]
          exact k H3 s3
      · refine no ?_
        show (decide (ts.length ≤ 2) && ts.all isNm) = false
        rw [decide_eq_false (by omega), Bool.false_and]
    | false =>
      refine iteF (no ?_)
      cases t <;> first | rfl | cases ht
end
end Vm
namespace Vm
open PySem L2
theorem filter_add {p : Str → Bool} {ss : List Str} {i : Nat} {z : Str} (h : ss[i]? = some z) : (ss.take (i + 1)).filter p = if p z = true then (ss.take i).filter p ++ [z] else (ss.take i).filter p := by
  rw [List.take_add_one, h, List.filter_append]
  by_cases e : p z = true
  · rw [if_pos e]
    simp [e]
  · rw [if_neg e]
    simp [e]
theorem map_at {ss : List Str} {i : Nat} {y : V} (h : (ss.map V.str)[i]? = some y) : ∃ z, ss[i]? = some z ∧ y = .str z := by
  rw [List.getElem?_map] at h
  cases e : ss[i]? with
  | none => rw [e] at h; cases h
  | some u => rw [e] at h; exact ⟨u, rfl, (Option.some.inj h).symm⟩
section
variable {P : Program} {w : World} {K : PySem.W.Frag} {mg : Str → Option Value} {base : Heap} {fNm fNms : Addr} {fdNm fdNms : FuncData}
theorem scIsKey : FnScope ["thing", "columns", "column"] ["thing", "columns"] (defScope sIsKey) := ⟨rfl, rfl, rfl, by decide +kernel, rfl, by decide +kernel, by decide +kernel⟩
theorem ok_iskey {f : Addr} {fd : FuncData} (F : Fun K "_is_key" "_is_key" sIsKey f fd) (T : TxtP K mg fNm fNms) : FnOk P w K mg base CX0 1 f fd ["thing", "columns"] (spKey K) := by
  refine F.ok scIsKey (fun vs H Q E h => ?_) (fun cdv A outer s H vs Q E hr h => ?_)
  · obtain ⟨v, t, n, bs, c, ss, rfl, _⟩ := h
    rfl
  · obtain ⟨v, t, n, bs, c, ss, rfl, d, hS, h4, k⟩ := h
    have hu : (A.deeper (PyProof.Rows.envOfC "_is_key" (defScope sIsKey) s.heap.objs.size f cdv)).units + 1 < cLine := by
      have := hr.units
      omega
    refine ⟨_, pss_one (ps_ret (pe_and (pe_callB call_isi (by rfl) T.isi (by decide +kernel) (pa_cons (pv 0) (pa_cons (pe_bltn (v := .ty "tuple") (by rfl) T.tuple (by decide +kernel) rfl) pa_nil)))
      (pe_one (pe_cmpR (op_eqTS hu) (pv 0) (pe_callTy call_tuple_of (by rfl) T.tuple (by decide +kernel) (pa_cons (pe_lc (own := [("column", 2)]) (g := gName 2) rfl scIsKey.nd (pi_tup (pv 1))
          (blkOk_by (N := ["thing", "columns", "column"]) (sc := defScope sIsKey) (by decide +kernel)) (fun _ _ _ _ _ => pg_name (i := 2) scIsKey.nd rfl (Or.inl rfl))
          (fun _ _ _ _ _ => pts_one (pt_cmpR (op_inD (K := K) rfl hu) (pv 2) (pv 0) (by rfl)))
          (fun _ _ _ _ _ => pv 2)) pa_nil)) (nomark _))))), ?_⟩
    refine ⟨_, rfl, v, _, _, _, isTup t, rfl, .ty _, d.ty, kit_tup t, _, rfl, ?_⟩
    have no : isKey t ss = false → Q (.bl false) H := fun z => by
      rw [← z]
      exact k H (Same.refl H)
    cases ht : isTup t with
    | true =>
      obtain ⟨a, xs, ts, m, cs, rfl, rfl, _, ha, r, _⟩ := d.tupOf ht
      refine iteT ?_
      refine ⟨_, rfl, _, rfl, c, rfl, ⟨_, hS⟩, fun D hD => ?_⟩
      refine lc_tup (K := K) (a := c) (xs := ss.map V.str) (fun i H' => Same H H' ∧ H' D = some (.lst (((ss.take i).filter fun z => ts.any (isS z)).map V.str))) ⟨same_upd hD, upd_same⟩ (fun i H' _ q => sameT q.1 hS) ?_ ?_
      · rintro i y H3 hi ⟨s3, e3⟩
        obtain ⟨z, ez, rfl⟩ := map_at hi
        refine ⟨rfl, ?_⟩
        refine ⟨_, rfl, _, rfl, z, a, xs, ts, _, _, rfl, rfl, sameT s3 ha, r.same s3, _, rfl, ?_⟩
        have fa := filter_add (p := fun z => ts.any (isS z)) ez
        refine iteB (b := ts.any (isS z)) (fun e => ?_) (fun e => ?_)
        · refine ⟨_, rfl, _, e3, ?_, fun b o q => ?_, ?_⟩
          · rw [List.length_map]
            have l1 := List.length_filter_le (fun z => ts.any (isS z)) (ss.take i)
            have l2 : (ss.take i).length ≤ ss.length := by
              rw [List.length_take]
              omega
            have : sizeLine > 4 := by decide
            omega
          · rw [upd_ne (ne_of_none q hD)]
            exact s3 b o q
          · rw [upd_same, fa, if_pos e, List.map_append]
            rfl
        · refine ⟨s3, ?_⟩
          rw [fa, if_neg (by rw [e]; decide)]
          exact e3
      · rintro H3 ⟨s3, e3⟩
        refine ⟨D, _, rfl, .inl ⟨SqL.of e3, fun l hl => ?_⟩⟩
        have s4 := s3.trans (same_upd (o := .tup (((ss.take (ss.map V.str).length).filter fun z => ts.any (isS z)).map V.str)) hl)
        refine ⟨a, l, xs, ts, _, cs, _, rfl, rfl, sameT s4 ha, r.same s4, SqT.of upd_same, ?_⟩
        rw [List.length_map, List.take_length]
        exact k _ (by rw [List.length_map, List.take_length] at s4; exact s4)
    | false =>
      refine iteF (no ?_)
      cases t <;> first | rfl | cases ht
end
end Vm
namespace Vm
open PySem PySem.Spec PyProof.Rows
/-! len(set(t)), t a tuple of any texts -/
/-- how many different texts stand ahead of the place i -/
def many (xs : List Str) : Nat → Nat
  | 0 => 0
  | i + 1 => if (xs.take i).any (· == xs.getD i Str.empty) = true then many xs i else many xs i + 1
theorem many_le (xs : List Str) : ∀ i, many xs i ≤ i
  | 0 => Nat.le_refl _
  | i + 1 => by
    have h := many_le xs i
    unfold many
    split <;> omega
def seen (xs : List Str) (i : Nat) : Str → Bool := fun z => (xs.take i).any (· == z)
theorem seen_succ (xs : List Str) {i : Nat} (h : i < xs.length) (z : Str) : (seen xs i z || decide (z = xs.getD i Str.empty)) = seen xs (i + 1) z := by
  unfold seen
  have e : xs.getD i Str.empty = xs[i] := by
    rw [List.getD_eq_getElem?_getD, List.getElem?_eq_getElem h]
    rfl
  rw [List.take_add_one, List.getElem?_eq_getElem h, List.any_append, e]
  congr 1
  by_cases q : z = xs[i]
  · rw [decide_eq_true q, q]
    simp
  · have q2 : (xs[i] == z) = false := beq_eq_false_iff_ne.mpr fun y => q y.symm
    rw [decide_eq_false q]
    simp [q2]
section
variable {prog : Program} {w : World} {A : Around} {R : Result → Shared → Prop} {I : Addr} {fp wr : List Addr} {G : Array GenState → Array GenState → Prop} {n : Nat} {Pv : Nat → Value → Prop} {St : Nat → Shared → Prop}
theorem set_same {B : Addr} {xs : List Str} {i m : Nat} {h h' : Heap} (q : h.SetOf (strKind prog w) B (seen xs i) m) (k : ∀ o, h.get? B = some o → h'.get? B = some o) : h'.SetOf (strKind prog w) B (seen xs i) m :=
  let ⟨o, es, ep, t, ho, rest⟩ := q
  ⟨o, es, ep, t, k o ho, rest⟩
/-- the walk puts every text into the set at B -/
theorem put_all (W : WalksS prog w A.in1 I fp wr G n Pv St) (B : Addr) (off : B ∉ fp) (xs : List Str) (len : xs.length = n) (few : n < 1000) (vals : ∀ i v, Pv i v → ∃ t, v = .str (xs.getD i Str.empty) t) :
    ∀ (k i : Nat) (s : Shared), n - i = k → i ≤ n → St i s → s.heap.SetOf (strKind prog w) B (seen xs i) (many xs i) →
      (∀ s', Moved (B :: wr) G s s' → s'.heap.SetOf (strKind prog w) B (seen xs n) (many xs n) → R (.ok (.ret .none)) s') → codeAny (model prog w) A (.builtin "set.update.loop" ⟨[.ref B, .ref I], []⟩) R s
  | 0, i, s, hk, hi, at_, q, go => by
    obtain rfl : i = n := by omega
    refine codeAny_builtin PyProof.Rows.F.entry_set_update_loop ?_
    rw [Around.under_plainId PyProof.Rows.F.plain_set_update_loop _]
    show wpAny _ A.in1 (pyNext (.ref I) >>= _) _ _ _
    refine wpAny_bind (W.done s _ _ at_ fun s1 mv => ?_)
    exact wpAny_pure (go s1 (mv.mono fun b hb => List.mem_cons_of_mem _ hb) (set_same q fun o e => mv.heap B _ (fun z => off (W.sub _ z)) e))
  | k + 1, i, s, hk, hi, at_, q, go => by
    have lt : i < n := by omega
    refine codeAny_builtin PyProof.Rows.F.entry_set_update_loop ?_
    rw [Around.under_plainId PyProof.Rows.F.plain_set_update_loop _]
    show wpAny _ A.in1 (pyNext (.ref I) >>= _) _ _ _
    refine wpAny_bind (W.item i s _ _ lt at_ fun v s1 pv at1 mv => ?_)
    obtain ⟨t, rfl⟩ := vals i v pv
    have q1 := set_same (h' := s1.heap) q fun o e => mv.heap B _ (fun z => off (W.sub _ z)) e
    show wpAny _ _ (holding [Value.str (xs.getD i Str.empty) t] (setAdd B (.str (xs.getD i Str.empty) t)) >>= _) _ _ _
    refine wpAny_bind (wpAny_holding ?_)
    unfold setAdd
    refine wpAny_holding (wpAny_bind ((strKind prog w).pyHash (k := xs.getD i Str.empty) (strKind_is _ _ _ _) ?_))
    have room : many xs i + 1 < scanBound := by
      have := many_le xs i
      unfold scanBound
      omega
    refine wpAny_setAddHashed_of (knd := strKind prog w) (s := { s1 with toks := s1.toks + 1 }) (strKind_is _ _ _ _) rfl q1 room fun h2 but q2 => ?_
    have q3 : h2.SetOf (strKind prog w) B (seen xs (i + 1)) (many xs (i + 1)) := SetOf_congr q2 (fun z => seen_succ xs (by omega) z) rfl
    refine wpAny_pure ⟨plainId_quiet PyProof.Rows.F.plain_set_update_loop _, put_all W B off xs len few vals k (i + 1) _ (by omega) lt ?_ q3 fun s3 mv3 q4 => ?_⟩
    · refine W.frame _ s1 _ _ at1 (Nat.le_succ _) fun b hb o e => ?_
      rw [but.2 b fun z => off (z ▸ hb)]
      exact e
    · refine go s3 (Moved.trans W.gtrans ((mv.mono fun b hb => List.mem_cons_of_mem _ hb).then_heap (Nat.le_succ _) fun b o hb e => ?_) mv3) q4
      rw [but.2 b fun z => hb (z ▸ List.mem_cons_self)]
      exact e
end
section
variable {prog : Program} {w : World} {A : Around} {E : Value → Shared → Prop} {s : Shared}
abbrev newSet (led : Bool) : Obj := { cls := .type "set", dict := none, data := .set #[] 0 (.fresh 0 0 led) }
abbrev Ready (prog : Program) (w : World) (s : Shared) (xs : List Str) (t : Shared) : Prop := ∃ h' tk, t = { s with heap := h', toks := tk } ∧ h'.SetOf (strKind prog w) s.heap.objs.size (seen xs xs.length) (many xs xs.length) ∧
  ∀ b o, b < s.heap.objs.size → s.heap.get? b = some o → h'.get? b = some o
/-- the body of __init__ -/
theorem fill_set {l : Addr} {items : Array Value} {xs : List Str} {led : Bool} {Q : PySem.Fin → Shared → Prop} (hh : A.handled = none) (hl : s.heap.IsTuple l items) (hi : StrsAre items.toList xs) (few : xs.length < 1000)
    (go : ∀ t, Ready prog w s xs t → Q (.done (.ret .none)) t) : wpAny (model prog w) A (Builtin.«set.__init__» ⟨[.ref s.heap.objs.size, .ref l], []⟩) Q E { s with heap := s.heap.push (newSet led) } := by
  have at_l : l < s.heap.objs.size := let ⟨_, e, _⟩ := hl; Heap.lt_size e
  obtain ⟨⟨c, dd, dt, sl⟩, e, hc, m, hd⟩ := hl
  dsimp only at hc hd
  subst hc hd
  have e1 : (s.heap.push (newSet led)).get? l = some { cls := .type "tuple", dict := dd, data := .seq items m, slots := sl } := Heap.get?_push_of_some _ e
  have eB : (s.heap.push (newSet led)).get? s.heap.objs.size = some (newSet led) := Heap.get?_push_size _ rfl
  have tup : (s.heap.push (newSet led)).IsTuple l items := ⟨_, e1, rfl, m, rfl⟩
  have no1 := PySem.F.sub_tuple_set
  have no2 := PySem.F.sub_tuple_frozenset
  have no3 : (Value.type "tuple" == Value.type "dict") = false := by decide
  unfold Builtin.«set.__init__» noKeywords Builtin.Frozenset.updateFrom
  generalize hIt : pyIter = It
  wp_walk
  subst hIt
  refine wpAny_pyIter_tuple tup (wpAny_bind (wpAny_runValue ?_))
  have sz : (s.heap.push (newSet led)).objs.size = s.heap.objs.size + 1 := Heap.size_push _ _
  have apart : l ≠ (s.heap.push (newSet led)).objs.size := by
    rw [sz]
    exact Nat.ne_of_lt (Nat.lt_succ_of_lt at_l)
  have out : s.heap.objs.size ∉ [(s.heap.push (newSet led)).objs.size, l] := by
    rw [sz]
    intro z
    rcases List.mem_cons.mp z with z | z
    · exact absurd z (Nat.ne_of_lt (Nat.lt_succ_self _))
    · exact absurd (List.mem_singleton.mp z) (Nat.ne_of_gt at_l)
  have len : xs.length = items.size := by rw [← StrsAre.len_eq hi, Array.length_toList]
  have calm : A.in1.handled = none := by simp [hh]
  refine put_all ((Walks.tuple calm _ l apart items).toS) s.heap.objs.size out xs len (by omega) (fun i v hv => SS.strs_at hi i v (by rw [Array.getElem?_toList]; exact hv)) (items.size - 0) 0 _ (by omega) (Nat.zero_le _)
    ?here ?first ?last
  case here => exact ⟨⟨_, Heap.get?_push_size _ rfl, rfl, rfl⟩, tup.push _⟩
  case first => exact SetOf_congr ((setObjOf_fresh (knd := strKind prog w) led).setOf (Heap.get?_push_of_some _ eB) (by unfold scanBound; omega)) (fun _ => rfl) rfl
  case last =>
    intro t mv q
    obtain ⟨h', g', d', tk', os'⟩ := t
    obtain rfl : g' = s.gens := mv.gens
    obtain rfl : d' = s.drawn := mv.drawn
    obtain rfl : os' = s.os := mv.os
    show wpAny _ _ _ _ _ _
    refine wpAny_pure ?_
    show wpAny _ _ (ret Value.none) _ _ _
    refine wpAny_pure (go _ ⟨h', tk', rfl, by rw [len]; exact q, fun b o lt eb => ?_⟩)
    refine mv.heap b o (fun z => ?_) (Heap.get?_push_of_some _ (Heap.get?_push_of_some _ eb))
    rcases List.mem_cons.mp z with z | z
    · exact absurd z (Nat.ne_of_lt lt)
    · have z2 := List.mem_singleton.mp z
      rw [sz] at z2
      exact absurd z2 (Nat.ne_of_lt (Nat.lt_succ_of_lt lt))
end
section
variable {prog : Program} {w : World} {A : Around} {E : Value → Shared → Prop} {s : Shared}
/-- set(t) -/
theorem set_tuple {l : Addr} {items : Array Value} {xs : List Str} {Q : Value → Shared → Prop} (hh : A.handled = none) (hl : s.heap.IsTuple l items) (hi : StrsAre items.toList xs) (few : xs.length < 1000)
    (go : ∀ t, Ready prog w s xs t → Q (.ref s.heap.objs.size) t) : wpAny (model prog w) A (call (.type "set") [.ref l]) Q E s := by
  have F0 := PySem.F.called_set
  obtain ⟨c, tl, order⟩ := F0.mro
  have g1 := F0.made
  have g2 := F0.sub
  refine wpAny_call (codeAny_of_tree ?_)
  show wpAny _ _ (callAny (.type "set") _) _ _ _
  refine wpAny_pure ⟨Code.quiet_builtin _ (by decide +kernel), codeAny_builtin PySem.F.entry_type_call ?_⟩
  rw [Around.under_plain (weight_type_call_type "set" [.ref l] []) rfl]
  have g3 := F0.notType
  have g4 := F0.canCreate
  have g5 := PySem.F.typeCall_set_1 (.ref l)
  repeat (any_goals (first | assumption | wp_step))
  refine codeAny_mono (code_set_new_1 (.ref l) (E := E) (Q₁ := fun made s₁ => ∃ led : Bool, made = .ref s.heap.objs.size ∧ s₁ = { s with heap := s.heap.push (newSet led) }) fun led => ⟨led, rfl, rfl⟩) fun r s₁ hr => ?_
  match r, hr with
  | .error e, hr => exact hr
  | .ok (.ret made), hr =>
    obtain ⟨led, rfl, rfl⟩ := hr
    have eB : (s.heap.push (newSet led)).get? s.heap.objs.size = some (newSet led) := Heap.get?_push_size _ rfl
    have ty : Shared.TypeIs { s with heap := s.heap.push (newSet led) } (.ref s.heap.objs.size) "set" := ⟨_, eB, rfl⟩
    have g6 := F0.init.lookup
    have g7 := F0.init.bind (.ref s.heap.objs.size)
    repeat (any_goals (first | assumption | wp_step))
    refine codeAny_mono (codeAny_call_builtin (R := wants (fun r t => r = .none ∧ Ready prog w s xs t) E) F0.init.plain PySem.F.entry_set_init (check_set_init_1 ty ?_)) fun r₂ t hr₂ => ?_
    · refine fill_set (by simp [hh]) hl hi few fun t q => ?_
      exact ⟨rfl, q⟩
    · match r₂, hr₂ with
      | .error e, hr₂ => exact hr₂
      | .ok (.ret r), hr₂ =>
        obtain ⟨rfl, q⟩ := hr₂
        have go' := go _ q
        repeat (any_goals (first | assumption | wp_step))
end
section
open L2
variable {X : Cx}
/-- what len(set(t)) asks -/
def tManyT (K : PySem.W.Frag) (ta : TE) : TE := fun σ H Q => ta σ H fun x H1 => ∃ (l : Addr) (xs : List Str), x = .ref l ∧ SqT K H1 l (xs.map V.str) ∧ xs.length < 1000 ∧ Q (.int (many xs xs.length)) H1
theorem pe_many {a : Expr} {ta : TE} {p p2 q pos : Pos} (hc : X.calm = true) (hg : Gl X "len") (hm : X.mg "len" = none) (hg2 : Gl X "set") (hm2 : X.mg "set" = none) (ha : PE X a ta)
    (na : starEach [a] X.env = (false, eval a X.env) :: starEach [] X.env := by rfl) : PE X (.Call (.Name "len" p) [.Call (.Name "set" p2) [a] [] q] [] pos) (tManyT X.K ta) := by
  constructor
  intro pins s σ H Q I h
  refine Call_ (ld_blt I hg hm boot_len (PyProof.Rows.callWith_builtin1 (PyProof.Rows.args_cons (Call_ (ld_blt I hg2 hm2 boot_set ?_)) rfl) rfl rfl))
  refine PyProof.Rows.callWith_type1 (PyProof.Rows.args_cons (thn (ha.run pins s σ H _ I h) ?_) na) na rfl
  rintro v s1 ⟨x, H1, I1, r1, l, xs, rfl, hq, few, want⟩
  cases r1
  refine PyProof.Rows.args_nil ?_
  obtain ⟨its, r, pl, _⟩ := I1.tuple hq
  refine set_tuple (I1.ok.hd hc) pl (by simpa using strsAre_of r) few ?_
  rintro t ⟨h', tk, rfl, ⟨o, es, ep, tb, ho, hex, hd, _, _, _, hf, hn⟩, kept⟩
  refine PyProof.Rows.args_nil ?_
  have I2 : Inv X pins σ H1 { s1 with heap := h', toks := tk } := I1.kept fun b o e => kept b o (Heap.lt_size e) e
  have le := many_le xs xs.length
  exact call_len_set ho hex hd hf (by rw [hn]; omega) ⟨.int (many xs xs.length), H1, I2.tok _, ⟨_, by rw [hn]⟩, want⟩
end
/-- all different -/
theorem many_all {xs : List Str} : ∀ {i : Nat}, i ≤ xs.length → (many xs i = i ↔ (xs.take i).Nodup)
  | 0, _ => by simp [many]
  | i + 1, h => by
    have ih := many_all (xs := xs) (i := i) (by omega)
    have le := many_le xs i
    have e : xs.getD i Str.empty = xs[i] := by
      rw [List.getD_eq_getElem?_getD, List.getElem?_eq_getElem (by omega)]
      rfl
    rw [List.take_add_one, List.getElem?_eq_getElem (show i < xs.length by omega)]
    unfold many
    rw [e]
    by_cases m : (xs.take i).any (· == xs[i]) = true
    · rw [if_pos m]
      obtain ⟨y, hy, ey⟩ := List.any_eq_true.mp m
      have ey2 : y = xs[i] := beq_iff_eq.mp ey
      refine ⟨fun z => by omega, fun z => ?_⟩
      have z2 := (List.nodup_append.mp z).2.2 y hy xs[i] (by simp)
      exact absurd ey2 z2
    · rw [if_neg m]
      refine ⟨fun z => ?_, fun z => ?_⟩
      · have d := ih.mp (by omega)
        refine List.nodup_append.mpr ⟨d, by simp, fun y hy y2 hy2 q => m ?_⟩
        have q2 : y2 = xs[i] := by simpa using hy2
        exact List.any_eq_true.mpr ⟨y, hy, beq_iff_eq.mpr (q.trans q2)⟩
      · have d := ih.mpr (List.nodup_append.mp z).1
        omega
end Vm
namespace Vm
open PySem L2
/-- all are names: texts -/
theorem DtAll.names {K : PySem.W.Frag} {H : Hp} : ∀ {xs : List V} {ts : List Tr} {n : Nat} {bs : List Addr}, DtAll K H xs ts n bs → ts.all isNm = true → ∃ ss : List Str, ts = ss.map Tr.str ∧ xs = ss.map V.str ∧ ss.all nmS = true
  | _, _, _, _, .nil, _ => ⟨[], rfl, rfl, rfl⟩
  | _, t :: _, _, _, .cons h r, e => by
    rw [List.all_cons, Bool.and_eq_true] at e
    obtain ⟨ss, e1, e2, e3⟩ := r.names e.2
    cases h with
    | @str _ x h1 h2 => exact ⟨x :: ss, by rw [e1]; rfl, by rw [e2]; rfl, by rw [List.all_cons, e3, Bool.and_true]; exact e.1⟩
    | _ => cases e.1
/-- .. that tuple -/
theorem Dt.names {K : PySem.W.Frag} {H : Hp} {v : V} {t : Tr} {n : Nat} {bs : List Addr} (d : Dt K H v t n bs) (h : areNms t = true) : ∃ (a : Addr) (ss : List Str), v = .ref a ∧ t = .tup (ss.map Tr.str) ∧ TupE K H a (ss.map V.str) ∧ ss.length ≤ 2 ∧ ss.all nmS = true := by
  have ht : isTup t = true := by
    cases t <;> first | rfl | cases h
  obtain ⟨a, xs, ts, m, cs, rfl, rfl, _, ha, r, _⟩ := d.tupD ht
  have h2 : (decide (ts.length ≤ 2) && ts.all isNm) = true := h
  rw [Bool.and_eq_true, decide_eq_true_eq] at h2
  obtain ⟨ss, rfl, rfl, e3⟩ := r.names h2.2
  exact ⟨a, ss, rfl, rfl, ha, by simpa using h2.1, e3⟩
def strOf : Tr → Option Str
  | .str x => some x
  | _ => none
def strsOf : Tr → List Str
  | .tup ts => ts.filterMap strOf
  | _ => []
theorem strsOf_map (ss : List Str) : strsOf (.tup (ss.map Tr.str)) = ss := by
  show (ss.map Tr.str).filterMap strOf = ss
  rw [List.filterMap_map]
  exact List.filterMap_some
def colsOk (ss : List Str) : Bool := decide (0 < ss.length) && decide ss.Nodup
def areCols (t1 t2 : Tr) : Bool := areNms t1 && (areNms t2 && colsOk (strsOf t1 ++ strsOf t2))
def spCols (K : PySem.W.Frag) : Sp := fun vs H Q _ => ∃ (v1 v2 : V) (t1 t2 : Tr) (n1 n2 : Nat) (b1 b2 : List Addr), vs = [v1, v2] ∧ Dt K H v1 t1 n1 b1 ∧ Dt K H v2 t2 n2 b2 ∧ ∀ H', Same H H' → Q (.bl (areCols t1 t2)) H'
section
variable {X : Cx}
/-- t + u, of texts -/
def rCatS (K : PySem.W.Frag) : R2 := fun x y H Q => ∃ (a b : Addr) (ss zs : List Str), x = .ref a ∧ y = .ref b ∧ SqT K H a (ss.map V.str) ∧ SqT K H b (zs.map V.str) ∧ ss.length + zs.length ≤ sizeLine ∧
  ∀ (q : Addr) (H' : Hp), Same H H' → SqT K H' q ((ss ++ zs).map V.str) → Q (.ref q) H'
theorem op_catS : OpR X (binaryOp .Add) (rCatS X.K) := by
  intro pins s σ H x y v u Q I rx ry h
  obtain ⟨a, b, ss, zs, rfl, rfl, ha, hb, hz, q⟩ := h
  refine op_catA pins s σ H _ _ v u Q I rx ry ⟨a, b, _, _, rfl, rfl, ha, hb, by simpa using hz, fun e => ?_, fun _ e => ?_, fun _ _ p hp => ?_⟩
  · have e2 : ss = [] := by simpa using e
    subst e2
    exact q b H (Same.refl H) hb
  · have e2 : zs = [] := by simpa using e
    subst e2
    refine q a H (Same.refl H) ?_
    rw [List.append_nil]
    exact ha
  · refine q p _ (same_upd hp) ?_
    rw [List.map_append]
    exact SqT.of upd_same
/-- t + u, of tuples that were made here -/
def rCatE (K : PySem.W.Frag) : R2 := fun x y H Q => ∃ (a b : Addr) (xs ys : List V), x = .ref a ∧ y = .ref b ∧ TupE K H a xs ∧ TupE K H b ys ∧ xs.length + ys.length ≤ sizeLine ∧
  ∀ (q : Addr) (H' : Hp), Same H H' → TupE K H' q (xs ++ ys) → (q = a ∨ q = b ∨ H q = none) → Q (.ref q) H'
theorem op_catE : OpR X (binaryOp .Add) (rCatE X.K) := by
  intro pins s σ H x y v u Q I rx ry h
  obtain ⟨a, b, xs, ys, rfl, rfl, ha, hb, hz, q⟩ := h
  refine op_catF pins s σ H _ _ v u Q I rx ry ⟨a, b, _, _, rfl, rfl, ha.sq, hb.sq, hz, fun e => ?_, fun _ e => ?_, fun _ _ p o hp hd => ?_⟩
  · subst e
    exact q b H (Same.refl H) hb (.inr (.inl rfl))
  · subst e
    refine q a H (Same.refl H) ?_ (.inl rfl)
    rw [List.append_nil]
    exact ha
  · exact q p _ (same_upd hp) (.inr ⟨o, upd_same, hd⟩) (.inr (.inr hp))
end
section
variable {P : Program} {w : World} {K : PySem.W.Frag} {mg : Str → Option Value} {base : Heap} {fNm fNms : Addr} {fdNm fdNms : FuncData}
theorem scAreCols : FnScope ["names", "numbers", "columns"] ["names", "numbers"] (defScope sAreCols) := ⟨rfl, rfl, rfl, by decide +kernel, rfl, by decide +kernel, by decide +kernel⟩
theorem ok_arecols {f : Addr} {fd : FuncData} (F : Fun K "_are_columns" "_are_columns" sAreCols f fd) (T : TxtP K mg fNm fNms) (GN : FnOk P w K mg base CX0 2 fNms fdNms ["thing"] (spTest K areNms)) (bN : Binds K fdNms ["thing"] []) :
    FnOk P w K mg base CX0 3 f fd ["names", "numbers"] (spCols K) := by
  refine F.ok scAreCols (fun vs H Q E h => ?_) (fun cdv A outer s H vs Q E hr h => ?_)
  · obtain ⟨v1, v2, t1, t2, n1, n2, b1, b2, rfl, _⟩ := h
    rfl
  · obtain ⟨v1, v2, t1, t2, n1, n2, b1, b2, rfl, d1, d2, k⟩ := h
    refine ⟨_, pss_cons (ps_if (pt_not (PW.pt (pw_and (pt_truth (pe_call GN hr rfl T.gNms T.kNms bN .nil pass0 (pa_cons (pv 0) pa_nil)) (fun _ => rfl)) (pw_and1 (pt_truth (pe_call GN hr rfl T.gNms T.kNms bN .nil pass0 (pa_cons (pv 1) pa_nil)) (fun _ => rfl))))))
        (pss_one (ps_ret pe_bl)) pss_nil)
      (pss_cons (ps_set (i := 2) scAreCols.nd rfl (Or.inl rfl) (pe_op op_catS (pv 0) (pv 1)))
      (pss_one (ps_ret (pe_and (pe_cmpR op_gt (pe_callB call_len_seq (by rfl) T.len (by decide +kernel) (pa_cons (pv 2) pa_nil)) pe_int (nomark _))
        (pe_one (pe_cmpR op_eq (pe_many rfl rfl T.len rfl T.set (pv 2)) (pe_callB call_len_seq (by rfl) T.len (by decide +kernel) (pa_cons (pv 2) pa_nil)) (nomark _))))))), ?_⟩
    refine ⟨_, rfl, v1, t1, n1, b1, rfl, d1, fun H1 s1 => ⟨areNms t1, rfl, ?_⟩⟩
    refine iteB (fun e1 => ?_) (fun e1 => ?_)
    · refine ⟨_, rfl, v2, t2, n2, b2, rfl, d2.same s1, fun H2 s2 => ⟨areNms t2, rfl, ?_⟩⟩
      have s12 := s1.trans s2
      cases e2 : areNms t2 with
      | false =>
        refine iteT ?_
        show Q (.bl false) H2
        have z : areCols t1 t2 = false := by
          unfold areCols
          rw [e2, Bool.false_and, Bool.and_false]
        rw [← z]
        exact k H2 s12
      | true =>
        refine iteF ?_
        obtain ⟨a, ss, rfl, rfl, ha, la, _⟩ := d1.names e1
        obtain ⟨b, zs, rfl, rfl, hb, lb, _⟩ := d2.names e2
        have ha := ha.sq
        have hb := hb.sq
        have z : areCols (.tup (ss.map Tr.str)) (.tup (zs.map Tr.str)) = colsOk (ss ++ zs) := by
          unfold areCols
          rw [e1, e2, Bool.true_and, Bool.true_and, strsOf_map, strsOf_map]
        rw [z] at k
        refine ⟨_, rfl, _, rfl, a, b, ss, zs, rfl, rfl, sameT s12 ha, sameT s12 hb, ?_, fun q H3 s3 hq => ?_⟩
        · have : sizeLine > 4 := by decide
          omega
        have s13 := s12.trans s3
        refine ⟨_, rfl, q, _, rfl, .inr hq, _, _, rfl, rfl, _, rfl, ?_⟩
        rw [List.length_map]
        refine ite_ (fun c => ?_) (fun c => ?_)
        · refine ⟨_, rfl, q, ss ++ zs, rfl, hq, by rw [List.length_append]; omega, _, rfl, q, _, rfl, .inr hq, rfl, ?_⟩
          rw [List.length_map]
          have m := many_all (xs := ss ++ zs) (Nat.le_refl _)
          rw [List.take_length] at m
          have z2 : decide (V.int (many (ss ++ zs) (ss ++ zs).length : Nat) = V.int ((ss ++ zs).length : Nat)) = colsOk (ss ++ zs) := by
            unfold colsOk
            rw [decide_eq_true (show 0 < (ss ++ zs).length by omega), Bool.true_and]
            by_cases nd : (ss ++ zs).Nodup
            · rw [decide_eq_true nd, m.mpr nd]
              exact decide_eq_true rfl
            · rw [decide_eq_false nd]
              refine decide_eq_false fun y => nd (m.mp ?_)
              have := V.int.inj y
              omega
          show Q (.bl (decide (V.int (many (ss ++ zs) (ss ++ zs).length : Nat) = V.int ((ss ++ zs).length : Nat)))) H3
          rw [z2]
          exact k H3 s13
        · have z3 : colsOk (ss ++ zs) = false := by
            unfold colsOk
            rw [decide_eq_false (show ¬ 0 < (ss ++ zs).length by omega), Bool.false_and]
          rw [z3] at k
          exact k H3 s13
    · refine iteT ?_
      show Q (.bl false) H1
      have z : areCols t1 t2 = false := by
        unfold areCols
        rw [e1, Bool.false_and]
      rw [← z]
      exact k H1 s1
end
end Vm
namespace Vm
open PySem L2
abbrev sInit : Stmt := inClass (top 17) 0
abbrev sColumns : Stmt := inClass (top 17) 1
abbrev sIsRow : Stmt := inClass (top 17) 2
abbrev sClash : Stmt := inClass (top 17) 3
abbrev sEq : Stmt := inClass (top 17) 4
section
variable {X : Cx}
/-- C(), an own exception class without __init__ -/
theorem pe_xbare {C : Addr} {bmB : List Value} {B nid initId : String} {x : Str} {p pos : Pos} (F : ExcBaseFacts B nid initId bmB) (q : PySem.W.excIn X.K C bmB nid = true) (gC : X.mg x = some (.ref C)) (kC : PySem.W.keepIn X.K (.ref C) = true) (hg : Gl X x)
    (hdb : (x == ("__debug__" : Str)) = false := by decide) : PE X (.Call (.Name x p) [] [] pos) (fun _ H Q => ∀ a, H a = none → Q (.ref a) (upd H a (ExO (.ref C) a))) := by
  refine ⟨fun pins s σ H Q I h => ?_⟩
  refine wpAny_Call_Name_kw (ld_glob I hg gC ?_ hdb)
  refine PySem.W.callWith_K0 I.kIn kC ?_
  show wpAny _ _ (call (.ref C) []) _ _ _
  obtain ⟨bm, N, nm, qn, bs, hdct, sn, sub, ab, col, dd, k0, k1, k2, k3, k5, mN, hC, hN, hni, T⟩ := exc_obj I.kIn q
  refine wpAny_call_exc_subT F T hC hN hni (fun h' a hm => ?_) (Nat.zero_le _)
  have hn : H a = none := I.hok.gone hm.new
  obtain ⟨t, ht, _, _⟩ := hm.there
  exact ⟨.ref a, upd H a (ExO (.ref C) a), I.laidN hm.keeps hm.new hn (exO_ok ht ⟨rfl, rfl⟩ rfl rfl rfl (show 4 < 6 by decide)), rfl, h a hn⟩
end
/-- four values that make a table -/
def valid (t1 t2 t3 t4 : Tr) : Bool := isNm t1 && (areCols t2 t3 && isKey t4 (strsOf t2 ++ strsOf t3))
abbrev flds (v1 v2 v3 v4 : V) : List (Str × V) := [("name", v1), ("names", v2), ("numbers", v3), ("key", v4)]
/-- what the written part says of the class Table, of InvalidTable -/
structure TxtT (K : PySem.W.Frag) (mg : Str → Option Value) (C CI fCols fKey : Addr) : Prop where
  cl : Cls K C
  n1 : NoAttr K C "name"
  n2 : NoAttr K C "names"
  n3 : NoAttr K C "numbers"
  n4 : NoAttr K C "key"
  gC : mg "Table" = some (.ref C)
  gI : mg "InvalidTable" = some (.ref CI)
  kI : PySem.W.keepIn K (.ref CI) = true
  xI : PySem.W.excIn K CI [.type "ValueError", .type "Exception", .type "BaseException", .type "object"] "ValueError.__new__" = true
  bI : PySem.W.subIn K (.ref CI) (.type "BaseException") = some true
  tI : PySem.W.typeIn K (.ref CI) = some (.type "type")
  gCols : mg "_are_columns" = some (.ref fCols)
  kCols : PySem.W.keepIn K (.ref fCols) = true
  gKey : mg "_is_key" = some (.ref fKey)
  kKey : PySem.W.keepIn K (.ref fKey) = true
def spInit (K : PySem.W.Frag) (C CI : Addr) : Sp := fun vs H Q E => ∃ (e dx : Addr) (v1 v2 v3 v4 : V) (t1 t2 t3 t4 : Tr) (n1 n2 n3 n4 : Nat) (b1 b2 b3 b4 : List Addr), vs = [.ref e, v1, v2, v3, v4] ∧ H e = some (.ins C dx []) ∧
  Dt K H v1 t1 n1 b1 ∧ Dt K H v2 t2 n2 b2 ∧ Dt K H v3 t3 n3 b3 ∧ Dt K H v4 t4 n4 b4 ∧
  (valid t1 t2 t3 t4 = true → ∀ H', (∀ b o, b ≠ e → H b = some o → H' b = some o) → H' e = some (.ins C dx (flds v1 v2 v3 v4)) → Q .non H') ∧ (valid t1 t2 t3 t4 = false → ∀ H', Same H H' → E (.ref CI) none H')
section
variable {P : Program} {w : World} {K : PySem.W.Frag} {mg : Str → Option Value} {base : Heap} {fNm fNms fCols fKey C CI : Addr} {fdNm fdCols fdKey : FuncData}
theorem scInit : FnScope ["self", "name", "names", "numbers", "key"] ["self", "name", "names", "numbers", "key"] (defScope sInit) := ⟨rfl, rfl, rfl, by decide +kernel, rfl, by decide +kernel, by decide +kernel⟩
theorem ok_init {f : Addr} {fd : FuncData} {dvs : List V} {kws : List (Str × V)} (F : FunD K "__init__" "Table.__init__" (defArgs sInit) (defBody sInit) (defScope sInit) dvs kws f fd) (T : TxtP K mg fNm fNms) (U : TxtT K mg C CI fCols fKey)
    (GN : FnOk P w K mg base CX0 1 fNm fdNm ["thing"] (spTest K isNm)) (bN : Binds K fdNm ["thing"] []) (GC : FnOk P w K mg base CX0 3 fCols fdCols ["names", "numbers"] (spCols K)) (bC : Binds K fdCols ["names", "numbers"] [])
    (GK : FnOk P w K mg base CX0 1 fKey fdKey ["thing", "columns"] (spKey K)) (bK : Binds K fdKey ["thing", "columns"] []) :
    FnOk P w K mg base (L2.CX P w) 4 f fd ["self", "name", "names", "numbers", "key"] (spInit K C CI) := by
  refine F.ok scInit (fun vs H Q E h => ?_) (fun cdv A outer s H vs Q E hr h => ?_)
  · obtain ⟨e, dx, v1, v2, v3, v4, t1, t2, t3, t4, n1, n2, n3, n4, b1, b2, b3, b4, rfl, _⟩ := h
    rfl
  · obtain ⟨e, dx, v1, v2, v3, v4, t1, t2, t3, t4, n1, n2, n3, n4, b1, b2, b3, b4, rfl, he, d1, d2, d3, d4, yes, no⟩ := h
    have hr1 : Room 1 _ := hr.mono (by decide)
    refine ⟨_, pss_cons (ps_if (pt_not (PW.pt (pw_and (pt_truth (pe_call GN hr1 rfl T.gNm T.kNm bN .nil pass0 (pa_cons (pv 1) pa_nil)) (fun _ => rfl))
          (pw_and (pt_truth (pe_call GC hr rfl U.gCols U.kCols bC .nil pass0 (pa_cons (pv 2) (pa_cons (pv 3) pa_nil))) (fun _ => rfl))
          (pw_and1 (pt_truth (pe_call GK hr1 rfl U.gKey U.kKey bK .nil pass0 (pa_cons (pv 4) (pa_cons (pe_op op_catS (pv 2) (pv 3)) pa_nil))) (fun _ => rfl)))))))
        (pss_one (ps_raise rfl (takes_of rfl rfl rfl rfl) (pmk_ret rfl (pe_xbare PySem.F.excBase_ValueError U.xI U.gI U.kI rfl)))) pss_nil)
      (pss_cons (ps_fld (pv 0) (pv 1) rfl) (pss_cons (ps_fld (pv 0) (pv 2) rfl) (pss_cons (ps_fld (pv 0) (pv 3) rfl) (pss_one (ps_fld (pv 0) (pv 4) rfl))))), ?_⟩
    have bad : valid t1 t2 t3 t4 = false → ∀ H', Same H H' → ∀ a, H' a = none → ∃ (a' : Addr) (cls : Value), V.ref a = .ref a' ∧ upd H' a (ExO (.ref CI) a) a' = some (ExO cls a') ∧ Fr0 H a' ∧
        Raises (cxOf (L2.CX P w) P w K mg base ["self", "name", "names", "numbers", "key"] "Table.__init__" (defScope sInit) f cdv A outer s H E) cls ∧ E cls none (delH (upd H' a (ExO (.ref CI) a)) a') := fun z H' s' a na => by
      refine ⟨a, .ref CI, rfl, upd_same, ?_, raises_own U.bI U.tI, ?_⟩
      · exact fr0_none (s'.free na)
      · rw [delH_new na]
        exact no z H' s'
    refine ⟨_, rfl, v1, t1, n1, b1, rfl, d1, fun H1 s1 => ⟨isNm t1, rfl, ?_⟩⟩
    refine iteB (fun e1 => ?_) (fun e1 => ?_)
    · refine ⟨_, rfl, _, rfl, v2, v3, t2, t3, n2, n3, b2, b3, rfl, d2.same s1, d3.same s1, fun H2 s2 => ⟨areCols t2 t3, rfl, ?_⟩⟩
      have s12 := s1.trans s2
      refine iteB (fun e2 => ?_) (fun e2 => ?_)
      · have e2' := e2
        unfold areCols at e2'
        rw [Bool.and_eq_true, Bool.and_eq_true] at e2'
        obtain ⟨a, ss, rfl, rfl, ha, la, _⟩ := d2.names e2'.1
        obtain ⟨b, zs, rfl, rfl, hb, lb, _⟩ := d3.names e2'.2.1
        have ha := ha.sq
        have hb := hb.sq
        have l4 : ss.length + zs.length ≤ 4 := by omega
        refine ⟨_, rfl, _, rfl, _, rfl, a, b, ss, zs, rfl, rfl, sameT s12 ha, sameT s12 hb, ?_, fun q H3 s3 hq => ?_⟩
        · have : sizeLine > 4 := by decide
          omega
        have s13 := s12.trans s3
        refine ⟨v4, t4, n4, b4, q, ss ++ zs, rfl, d4.same s13, hq, by rw [List.length_append]; exact l4, fun H4 s4 => ⟨isKey t4 (ss ++ zs), rfl, ?_⟩⟩
        have s14 := s13.trans s4
        have z : valid t1 (.tup (ss.map Tr.str)) (.tup (zs.map Tr.str)) t4 = isKey t4 (ss ++ zs) := by
          unfold valid
          rw [e1, e2, Bool.true_and, Bool.true_and, strsOf_map, strsOf_map]
        cases e3 : isKey t4 (ss ++ zs) with
        | false =>
          refine iteT ?_
          exact bad (z.trans e3) H4 s14
        | true =>
          refine iteF ?_
          refine ⟨_, rfl, _, rfl, e, C, dx, _, rfl, s14 _ _ he, U.cl, U.n1, by decide, ?_⟩
          refine ⟨_, rfl, _, rfl, e, C, dx, _, rfl, upd_same, U.cl, U.n2, (by show 1 < 1000; decide), ?_⟩
          refine ⟨_, rfl, _, rfl, e, C, dx, _, rfl, upd_same, U.cl, U.n3, (by show 2 < 1000; decide), ?_⟩
          refine ⟨_, rfl, _, rfl, e, C, dx, _, rfl, upd_same, U.cl, U.n4, (by show 3 < 1000; decide), ?_⟩
          refine yes (z.trans e3) _ (fun b o nb q => ?_) upd_same
          rw [upd_ne nb, upd_ne nb, upd_ne nb, upd_ne nb]
          exact s14 b o q
      · refine iteT ?_
        refine bad ?_ H2 s12
        unfold valid
        rw [e2, Bool.false_and, Bool.and_false]
    · refine iteT ?_
      refine bad ?_ H1 s1
      unfold valid
      rw [e1, Bool.false_and]
end
end Vm
namespace Vm
open PySem L2
/-- a table stands at a -/
structure Tb (K : PySem.W.Frag) (H : Hp) (C a : Addr) (nm : Str) (ss zs ks : List Str) : Prop where
  ex : ∃ dx a2 a3 a4, H a = some (.ins C dx (flds (.str nm) (.ref a2) (.ref a3) (.ref a4))) ∧ TupE K H a2 (ss.map V.str) ∧ TupE K H a3 (zs.map V.str) ∧ TupE K H a4 (ks.map V.str)
  l2 : ss.length ≤ 2
  l3 : zs.length ≤ 2
  l4 : ks.length ≤ 4
theorem Tb.same {K : PySem.W.Frag} {H H' : Hp} {C a : Addr} {nm : Str} {ss zs ks : List Str} (t : Tb K H C a nm ss zs ks) (k : Same H H') : Tb K H' C a nm ss zs ks := by
  obtain ⟨⟨dx, a2, a3, a4, h, h2, h3, h4⟩, l2, l3, l4⟩ := t
  exact ⟨⟨dx, a2, a3, a4, k _ _ h, h2.same k, h3.same k, h4.same k⟩, l2, l3, l4⟩
def isRow (a b : Nat) : Tr → Bool
  | .tup ts => decide (ts.length = a + b) && ((ts.take a).all isNm && (ts.drop a).all isNum)
  | _ => false
def spRow (K : PySem.W.Frag) (C : Addr) : Sp := fun vs H Q _ => ∃ (a : Addr) (nm : Str) (ss zs ks : List Str) (v : V) (t : Tr) (n : Nat) (bs : List Addr), vs = [.ref a, v] ∧ Tb K H C a nm ss zs ks ∧ Dt K H v t n bs ∧
  ∀ H', Same H H' → Q (.bl (isRow ss.length zs.length t)) H'
theorem cut_take (xs : List V) (k : Nat) : cutV xs none (some (k : Int)) = xs.take k := by
  have e := HT.sIx_nat xs.length xs.length k
  unfold cutV
  rw [e]
  show (xs.drop 0).take (min k xs.length - 0) = _
  rw [List.drop_zero, Nat.sub_zero, List.take_eq_take_iff.mpr]
  omega
theorem cut_drop (xs : List V) (k : Nat) : cutV xs (some (k : Int)) none = xs.drop k := by
  have e := HT.sIx_nat xs.length 0 k
  unfold cutV
  rw [e]
  show (xs.drop (min k xs.length)).take (xs.length - min k xs.length) = _
  rw [List.take_of_length_le (by rw [List.length_drop]; omega)]
  by_cases h : k ≤ xs.length
  · rw [Nat.min_eq_left h]
  · rw [Nat.min_eq_right (by omega), List.drop_of_length_le (Nat.le_refl _), List.drop_of_length_le (by omega)]
section
variable {X : Cx}
/-- t[:k], t[k:] -/
def rCut (K : PySem.W.Frag) : V → Option Int → Option Int → Hp → VK → Prop := fun x lo hi H Q => ∃ a xs, x = .ref a ∧ SqT K H a xs ∧ ∀ (q : Addr) (H' : Hp), Same H H' → SqT K H' q (cutV xs lo hi) → Q (.ref q) H'
theorem cut_all (xs : List V) (lo hi : Option Int) (h : HT.sIx xs.length 0 lo = 0 ∧ HT.sIx xs.length xs.length hi = xs.length) : cutV xs lo hi = xs := by
  unfold cutV
  rw [h.1, h.2, List.drop_zero, Nat.sub_zero, List.take_length]
theorem sl_cut : SlR X (rCut X.K) := by
  intro pins s σ H x v vl vu lo hi sl Q I rx hs pl pu h
  obtain ⟨a, xs, rfl, hx, q⟩ := h
  refine sl_tupA pins s σ H _ v vl vu lo hi sl Q I rx hs pl pu ⟨a, xs, rfl, hx, fun z => ?_, fun _ p hp => ?_⟩
  · refine q a H (Same.refl H) ?_
    rw [cut_all xs lo hi z]
    exact hx
  · exact q p _ (same_upd hp) (SqT.of upd_same)
end
section
variable {P : Program} {w : World} {K : PySem.W.Frag} {mg : Str → Option Value} {base : Heap} {fNm fNms fCols fKey fNum C CI : Addr} {fdNm fdNum : FuncData}
theorem scIsRow : FnScope ["self", "thing", "split", "value"] ["self", "thing"] (defScope sIsRow) := ⟨rfl, rfl, rfl, by decide +kernel, rfl, by decide +kernel, by decide +kernel⟩
theorem ok_isrow {f : Addr} {fd : FuncData} (F : Fun K "is_row" "Table.is_row" sIsRow f fd) (T : TxtP K mg fNm fNms) (U : TxtT K mg C CI fCols fKey)
    (GN : FnOk P w K mg base CX0 1 fNm fdNm ["thing"] (spTest K isNm)) (bN : Binds K fdNm ["thing"] []) (GU : FnOk P w K mg base CX0 1 fNum fdNum ["thing"] (spTest K isNum)) (gU : mg "is_number" = some (.ref fNum)) (kU : PySem.W.keepIn K (.ref fNum) = true) (bU : Binds K fdNum ["thing"] []) :
    FnOk P w K mg base CX0 2 f fd ["self", "thing"] (spRow K C) := by
  refine F.ok scIsRow (fun vs H Q E h => ?_) (fun cdv A outer s H vs Q E hr h => ?_)
  · obtain ⟨a, nm, ss, zs, ks, v, t, n, bs, rfl, _⟩ := h
    rfl
  · obtain ⟨a, nm, ss, zs, ks, v, t, n, bs, rfl, tb, d, k⟩ := h
    obtain ⟨⟨dx, a2, a3, a4, ha, h2, h3, h4⟩, l2, l3, l4⟩ := tb
    have h2 := h2.sq
    have h3 := h3.sq
    have h4 := h4.sq
    refine ⟨_, pss_cons (ps_if (PW.pt (pw_or (pt_not (pt_truth (pe_callB call_isi (by rfl) T.isi (by decide +kernel) (pa_cons (pv 1) (pa_cons (pe_bltn (v := .ty "tuple") (by rfl) T.tuple (by decide +kernel) rfl) pa_nil))) (fun _ => rfl)))
          (pw_or1 (pt_cmpR op_ne (pe_callB call_len_seq (by rfl) T.len (by decide +kernel) (pa_cons (pv 1) pa_nil))
            (pe_op op_add (pe_callB call_len_seq (by rfl) T.len (by decide +kernel) (pa_cons (pe_fld (pv 0) rfl) pa_nil)) (pe_callB call_len_seq (by rfl) T.len (by decide +kernel) (pa_cons (pe_fld (pv 0) rfl) pa_nil))) (nomark _)))))
        (pss_one (ps_ret pe_bl)) pss_nil)
      (pss_cons (ps_set (i := 2) scIsRow.nd rfl (Or.inl rfl) (pe_callB call_len_seq (by rfl) T.len (by decide +kernel) (pa_cons (pe_fld (pv 0) rfl) pa_nil)))
      (pss_one (ps_ret (pe_and (pe_callB (cr_all rfl) (by rfl) T.all (by decide +kernel) (pa_cons (pe_lc (own := [("value", 3)]) (g := gName 3) (tt := tYes) rfl scIsRow.nd (pi_tup (pe_slice sl_cut (pv 1) po_none (po_some (pv 2))))
            (blkOk_by (N := ["self", "thing", "split", "value"]) (sc := defScope sIsRow) (by decide +kernel)) (fun _ _ _ _ _ => pg_name (i := 3) scIsRow.nd rfl (Or.inl rfl)) (fun _ _ _ _ _ => pts_nil)
            (fun _ _ _ _ _ => pe_call GN hr rfl T.gNm T.kNm bN .nil pass0 (pa_cons (pv 3) pa_nil))) pa_nil))
          (pe_one (pe_callB (cr_all rfl) (by rfl) T.all (by decide +kernel) (pa_cons (pe_lc (own := [("value", 3)]) (g := gName 3) (tt := tYes) rfl scIsRow.nd (pi_tup (pe_slice sl_cut (pv 1) (po_some (pv 2)) po_none))
            (blkOk_by (N := ["self", "thing", "split", "value"]) (sc := defScope sIsRow) (by decide +kernel)) (fun _ _ _ _ _ => pg_name (i := 3) scIsRow.nd rfl (Or.inl rfl)) (fun _ _ _ _ _ => pts_nil)
            (fun _ _ _ _ _ => pe_call GU hr rfl gU kU bU .nil pass0 (pa_cons (pv 3) pa_nil))) pa_nil))))))), ?_⟩
    refine ⟨_, rfl, v, _, _, _, isTup t, rfl, .ty _, d.ty, kit_tup t, isTup t, rfl, ?_⟩
    have no : isRow ss.length zs.length t = false → ∀ H', Same H H' → Q (.bl false) H' := fun z H' s' => by
      rw [← z]
      exact k H' s'
    cases ht : isTup t with
    | false =>
      refine iteT (iteT (no ?_ H (Same.refl H)))
      cases t <;> first | rfl | cases ht
    | true =>
      obtain ⟨b, xs, ts, m, cs, rfl, rfl, _, hb, r, _⟩ := d.tupOf ht
      have hl := r.length
      refine iteF ?_
      refine ⟨_, rfl, b, xs, rfl, .inr hb, _, rfl, a, C, dx, _, _, rfl, ha, U.cl, U.n2, rfl, a2, _, rfl, .inr h2, _, rfl, a, C, dx, _, _, rfl, ha, U.cl, U.n3, rfl, a3, _, rfl, .inr h3, _, _, rfl, rfl, rfl, _, rfl, ?_⟩
      refine iteB (fun e => ?_) (fun e => ?_)
      · refine no ?_ H (Same.refl H)
        show (decide (ts.length = ss.length + zs.length) && _) = false
        rw [Bool.not_eq_true', decide_eq_false_iff_not, List.length_map, List.length_map] at e
        rw [decide_eq_false (fun z => e (by rw [hl, z]; rfl)), Bool.false_and]
      have el : ts.length = ss.length + zs.length := by
        rw [Bool.not_eq_false', decide_eq_true_eq, List.length_map, List.length_map] at e
        have := V.int.inj e
        omega
      obtain ⟨⟨c1, r1, _⟩, ⟨c2, r2, _⟩⟩ := r.part ss.length
      have row : isRow ss.length zs.length (.tup ts) = ((ts.take ss.length).all isNm && (ts.drop ss.length).all isNum) := by
        show (decide (ts.length = ss.length + zs.length) && _) = _
        rw [decide_eq_true el, Bool.true_and]
      refine ⟨_, rfl, a, C, dx, _, _, rfl, ha, U.cl, U.n2, rfl, a2, _, rfl, .inr h2, ?_⟩
      refine ⟨_, rfl, _, rfl, ((ss.map V.str).length : Nat), rfl, b, xs, rfl, hb, fun q H1 s1 hq => ⟨q, rfl, ⟨_, hq⟩, fun D hD => ?_⟩⟩
      rw [cut_take, List.length_map] at hq
      refine lc_tup (K := K) (a := q) (xs := xs.take ss.length) (fun i H' => Same H1 H' ∧ H' D = some (.lst ((((ts.take ss.length).take i).map isNm).map V.bl))) ⟨same_upd hD, upd_same⟩ (fun i H' _ z => sameT z.1 hq) ?_ ?_
      · rintro i y H3 hi ⟨s3, e3⟩
        refine ⟨rfl, ?_⟩
        dsimp only [tYes]
        rw [if_pos rfl]
        obtain ⟨t, ct, et, dt, _⟩ := (r1.same s1).get hi
        refine ⟨_, rfl, y, t, _, ct, rfl, dt.same s3, fun H4 s4 => ⟨_, s4 _ _ e3, ?_, fun b o e => ?_, ?_⟩⟩
        · rw [List.length_map, List.length_map, List.length_take]
          have : sizeLine > 8 := by decide
          have : (ts.take ss.length).length ≤ ts.length := by
            simp only [List.length_take, List.length_drop]
            omega
          omega
        · rw [upd_ne (ne_of_none e hD)]
          exact s4 b o (s3 b o e)
        · rw [upd_same, List.take_add_one, et]
          simp
      rintro H2 ⟨s2, e2⟩
      refine ⟨D, _, rfl, SqL.of e2, _, rfl, ?_⟩
      have z1 : (((((ts.take ss.length).take (xs.take ss.length).length).map isNm)).all id) = (ts.take ss.length).all isNm := by
        have l : (xs.take ss.length).length = (ts.take ss.length).length := r1.length
        rw [l, List.take_length, List.all_map]
        rfl
      rw [z1]
      have s12 := s1.trans s2
      refine iteB (fun e1 => ?_) (fun e1 => ?_)
      · refine ⟨_, rfl, _, rfl, ((ss.map V.str).length : Nat), rfl, b, xs, rfl, sameT s12 hb, fun q2 H3 s3' hq2 => ⟨q2, rfl, ⟨_, hq2⟩, fun D2 hD2 => ?_⟩⟩
        rw [cut_drop, List.length_map] at hq2
        have s13 := s12.trans s3'
        refine lc_tup (K := K) (a := q2) (xs := xs.drop ss.length) (fun i H' => Same H3 H' ∧ H' D2 = some (.lst ((((ts.drop ss.length).take i).map isNum).map V.bl))) ⟨same_upd hD2, upd_same⟩ (fun i H' _ z => sameT z.1 hq2) ?_ ?_
        · rintro i y H5 hi ⟨s3, e3⟩
          refine ⟨rfl, ?_⟩
          dsimp only [tYes]
          rw [if_pos rfl]
          obtain ⟨t, ct, et, dt, _⟩ := (r2.same s13).get hi
          refine ⟨_, rfl, y, t, _, ct, rfl, dt.same s3, fun H6 s4 => ⟨_, s4 _ _ e3, ?_, fun b o e => ?_, ?_⟩⟩
          · rw [List.length_map, List.length_map, List.length_take]
            have : sizeLine > 8 := by decide
            have : (ts.drop ss.length).length ≤ ts.length := by
              simp only [List.length_take, List.length_drop]
              omega
            omega
          · rw [upd_ne (ne_of_none e hD2)]
            exact s4 b o (s3 b o e)
          · rw [upd_same, List.take_add_one, et]
            simp
        rintro H4 ⟨s4, e4⟩
        refine ⟨D2, _, rfl, SqL.of e4, ?_⟩
        have z2 : ((((ts.drop ss.length).take (xs.drop ss.length).length).map isNum).all id) = (ts.drop ss.length).all isNum := by
          have l : (xs.drop ss.length).length = (ts.drop ss.length).length := r2.length
          rw [l, List.take_length, List.all_map]
          rfl
        rw [z2]
        rw [row, e1, Bool.true_and] at k
        exact k H4 (s13.trans s4)
      · rw [row, e1, Bool.false_and] at k
        exact k H2 s12
end
end Vm
namespace Vm
open PySem PySem.Spec PyProof.Rows L2
open AutoSeq1 (wpAny_loadPart')
open MeetsSeq
/-! for i, x in enumerate(t), t a tuple -/
theorem new_enum (t : Addr) (items : Array Value) (n : Nat) (dd : Option Addr) (sl : Array (Option Value)) :
    Meets (Builtin.«enumerate.__new__» ⟨[.type "enumerate", .ref t], []⟩) (fun _ R s => s.heap.get? t = some { cls := .type "tuple", dict := dd, data := .seq items n, slots := sl } ∧
      R (.ok (.ret (.ref (s.heap.push { cls := .type "tuple_iterator", data := .fields #[.ref t, .int 0 0] }).objs.size)))
        { s with heap := (s.heap.push { cls := .type "tuple_iterator", data := .fields #[.ref t, .int 0 0] }).push { cls := .type "enumerate", data := .fields #[.none, .bool false, .ref s.heap.objs.size, rawInt 0, .none, .none] } }) :=
  .of_wp fun prog w A R s h => by
    obtain ⟨hp, g, d, tk, os⟩ := s
    obtain ⟨hl, h⟩ := h
    have tup : hp.IsTuple t items := ⟨_, hl, rfl, n, rfl⟩
    have sub := sub_enumerate
    wp_walk using wpAny_loadPart' hl
    refine wpAny_stack_any fun st => wpAny_pure ?_
    split
    · rename_i c _ _ _ _ _
      cases (c == Value.type "enumerate") <;> (wp_walk using wpAny_loadPart' hl, wpAny_pyIter_tuple tup; exact ⟨_, rfl, h⟩)
    · wp_walk using wpAny_loadPart' hl, wpAny_pyIter_tuple tup
      exact ⟨_, rfl, h⟩
section
variable {prog : Program} {w : World} {A : Around} {E : Value → Shared → Prop} {s : Shared}
abbrev itOf (t : Addr) : Obj := { cls := .type "tuple_iterator", data := .fields #[.ref t, .int 0 0] }
theorem call_enum {t : Addr} {items : Array Value} {Q : Value → Shared → Prop} (ht : s.heap.IsTuple t items)
    (go : ∀ h', IsEnum h' (s.heap.objs.size + 1) s.heap.objs.size 0 .none → h'.IsTupleIter s.heap.objs.size t 0 → h'.objs.size = s.heap.objs.size + 2 → (∀ b o, s.heap.get? b = some o → h'.get? b = some o) →
      Q (.ref (s.heap.objs.size + 1)) { s with heap := h' }) : wpAny (model prog w) A (call (.type "enumerate") [.ref t]) Q E s := by
  obtain ⟨⟨c, dd, dt, sl⟩, hl, hc, n, hd⟩ := ht
  dsimp only at hc hd
  subst hc hd
  refine callType_new F.called_enumerate (by decide) (F.typeCall_enumerate_1 _) (F.newCall_enumerate_1 _) (fun made => F.args_object_init_2 made _) F.entry_enumerate_new (new_enum t items n dd sl) ⟨hl, ?_⟩
  have z : (s.heap.push (itOf t)).objs.size = s.heap.objs.size + 1 := Heap.size_push ..
  show _ ∧ _
  rw [z]
  have e : IsEnum ((s.heap.push (itOf t)).push { cls := .type "enumerate", data := .fields #[.none, .bool false, .ref s.heap.objs.size, rawInt 0, .none, .none] }) (s.heap.objs.size + 1) s.heap.objs.size 0 .none := by
    have y := Heap.get?_push_size (s.heap.push (itOf t)) (o := { cls := .type "enumerate", data := .fields #[.none, .bool false, .ref s.heap.objs.size, rawInt 0, .none, .none] }) rfl
    rwa [z] at y
  exact ⟨⟨_, e, rfl⟩, go _ e ⟨_, Heap.get?_push_of_some _ (Heap.get?_push_size _ rfl), rfl, rfl⟩ (by rw [Heap.size_push, z]) fun b o q => Heap.get?_push_of_some _ (Heap.get?_push_of_some _ q)⟩
end
/-- an iterator at the end of its tuple -/
theorem at_end {prog : Program} {w : World} {A : Around} (calm : A.handled = none) {it t : Addr} {items : Array Value} {i : Nat} (h : items.size ≤ i) :
    Draws prog w A it [it, t] i (fun _ _ => True) (fun j h => j = i ∧ h.IsTupleIter it t i ∧ h.IsTuple t items) where
  live := fun _ _ st => let ⟨o, ho, _⟩ := st.2.1; ⟨o, ho⟩
  frame := fun _ _ _ st k => ⟨st.1, st.2.1.at fun o e => k it (by simp) o e, st.2.2.at fun o e => k t (by simp) o e⟩
  item := fun j s Q E lt st _ => absurd st.1 (Nat.ne_of_lt lt)
  done := fun s Q E st hE => wpAny_nextOf_tuple_end calm st.2.1 st.2.2 (by simp; exact h) hE
/-- the tuple at a, each item in a new pair -/
def Itet (K : PySem.W.Frag) (a : Addr) : It :=
  ⟨fun i H => ∃ (xs : List V) (x : V), SqT K H a xs ∧ xs[i]? = some x, fun i H v H' => ∃ T x, v = .ref T ∧ H T = none ∧ H' = upd H T (.tup [.int (i : Nat), x]) ∧ ∀ xs, SqT K H a xs → xs[i]? = some x, fun i H => ∃ xs : List V, SqT K H a xs ∧ xs.length ≤ i⟩
theorem turn_enumT {P : Program} {w : World} {K : PySem.W.Frag} {elts : List Expr} {kk : Nat} {tpos : Pos} (a e it : Addr) (ae : a ≠ e) (ai : a ≠ it) :
    Turn P w K (.Tuple elts kk tpos) (Itet K a) [e, it] e (fun i h => (∃ old, IsEnum h e it ((i : Nat) : Int) old) ∧ h.IsTupleIter it a i ∧ e ≠ it) where
  mem := by simp
  obj := fun i h st b hb => by
    obtain ⟨⟨old, he⟩, ⟨o, ho, hc, hd⟩, _⟩ := st
    rcases (show b = e ∨ b = it by simpa using hb) with z | z
    · rw [z]
      exact ⟨_, he, fun v q => nomatch q⟩
    · rw [z]
      exact ⟨o, ho, fun v q => by rw [hd] at q; cases q⟩
  keep := fun i h h' st k => ⟨st.1.imp fun old he => k e (by simp) _ he, st.2.1.at fun o q => k it (by simp) o q, st.2.2⟩
  item := by
    intro X hP hw hK hc i pins s σ H E I hf st hg
    subst hP hw hK
    obtain ⟨⟨old, he⟩, hit, hne⟩ := st
    obtain ⟨xs, x, hq, hx⟩ := hg
    obtain ⟨its, rv, p, hz⟩ := I.tuple hq
    obtain ⟨u, hu, ru⟩ := rv.get hx
    have le : e < s.heap.objs.size := Heap.lt_size he
    have li : it < s.heap.objs.size := let ⟨_, q, _⟩ := hit; Heap.lt_size q
    have lt : i < its.toArray.size := by
      have := (List.getElem?_eq_some_iff.mp hu).1
      simpa using this
    have out : e ∉ [it, a] := fun z => (List.mem_cons.mp z).elim hne fun z => ae (List.mem_singleton.mp z).symm
    refine wpAny_pyNext_enum_itemD (Draws.tuple (A := X.A.in1) (by show X.A.handled = none; exact I.ok.hd hc) it a ai its.toArray) he ⟨hit, p⟩ lt hne out fun x' h' tk hx' ho st' hT hsz hk => ?_
    have ex : x' = u := by
      have e1 : its.toArray[i]? = some x' := hx'
      have e2 : its.toArray[i]? = some u := by simpa using hu
      exact Option.some.inj (e1.symm.trans e2)
    subst ex
    refine ⟨_, rfl, wpAny_letOwnedTupleGo_enum (s := { s with heap := h', toks := tk + 1 }) ho fun h2 he2 sb => ?_⟩
    have hT2 : h2.get? s.heap.objs.size = some { cls := .type "tuple", data := .seq #[.int i tk, x'] } := (sb.2 _ (Nat.ne_of_gt le)).trans hT
    have new : ObjOk X.prog X.w (upd H s.heap.objs.size (.tup [.int (i : Nat), x])) h2 s.heap.objs.size (.tup [.int (i : Nat), x]) :=
      ⟨by show 2 ≤ sizeLine; decide, [.int i tk, x'], .cons ⟨_, rfl⟩ (.cons ru .nil), ⟨_, hT2, rfl, _, rfl⟩⟩
    have I1 : Inv X pins σ (upd H s.heap.objs.size (.tup [.int (i : Nat), x])) { s with heap := h2, toks := tk + 1 } :=
      I.turnedNew (ch := [e, it]) (fun b ob hb q => (sb.2 b fun z => hb (by simp [z])).trans (hk b ob (fun z => hb (by simp [z])) (fun z => hb (by simp [z])) q)) hf (Nat.le_refl _) new
    refine ⟨.ref s.heap.objs.size, _, I1, rfl, ⟨_, x, rfl, I.hok.fresh (Nat.le_refl _), rfl, fun ys hy => by rw [I.tuple_inj hy hq]; exact hx⟩, ⟨⟨x', ?_⟩, st'.1.at fun o q => (sb.2 it (Ne.symm hne)).trans q, hne⟩, fun b hb => ?_⟩
    · rw [show ((i + 1 : Nat) : Int) = (i : Int) + 1 by omega]
      exact he2
    · have lb : b < s.heap.objs.size := by
        rcases (show b = e ∨ b = it by simpa using hb) with z | z
        · exact z ▸ le
        · exact z ▸ li
      rw [upd_ne (Nat.ne_of_lt lb)]
      exact (hf b hb).1
  done := by
    intro X hP hw hK hc i pins s σ H E I hf st hg
    subst hP hw hK
    obtain ⟨⟨old, he⟩, hit, hne⟩ := st
    obtain ⟨xs, hq, hx⟩ := hg
    obtain ⟨its, rv, p, hz⟩ := I.tuple hq
    obtain ⟨f0, f1, f2, f3, f4, f5⟩ := hf it (by simp)
    have hl := rv.length
    exact wpAny_pyNext_enum_endD (at_end (A := X.A.in1) (by show X.A.handled = none; exact I.ok.hd hc) (items := its.toArray) (i := i) (by simp; omega)) he ⟨rfl, hit, p⟩ fun h' eb => ⟨rfl, I.turned (t' := s.toks) (fun b o hb q => eb b o hb q) f0 f1 f3 f4 f5⟩
  self := fun A i s Q E st h => let ⟨⟨_, he⟩, _⟩ := st; wpAny_pyIter_enum he h
theorem walk_enumT {K : PySem.W.Frag} {a : Addr} {xs : List V} : Walk (Itet K a) xs.length (fun H => SqT K H a xs) (YPair (fun i => some (.int (i : Nat))) (fun i => xs[i]?)) := by
  refine ⟨fun i _ hi q => ⟨xs, xs[i], q, by simp [hi]⟩, fun _ q => ⟨xs, q, Nat.le_refl _⟩, ?_⟩
  rintro i H v H' _ q ⟨T, x, h1, h2, h3, h4⟩
  exact ⟨T, .int (i : Nat), x, h1, h2, h3, rfl, h4 xs q⟩
def iEnumT (K : PySem.W.Frag) (ta : TA) : TI := fun σ H R => ta σ H fun vs H1 => ∃ a xs, vs = [.ref a] ∧ SqT K H1 a xs ∧ R (Itet K a) H1
theorem pi_enumT {X : Cx} {e : Expr} {ta : TA} {p pos tpos : Pos} {elts : List Expr} {kk : Nat} (hg : Gl X "enumerate") (hm : X.mg "enumerate" = none) (ha : PA X [e] ta) (hs : starEach [e] X.env = [(false, eval e X.env)] := by rfl) :
    PI X (.Tuple elts kk tpos) (.Call (.Name "enumerate" p) [e] [] pos) (iEnumT X.K ta) := by
  constructor
  intro pins s σ H R I h
  refine Call_ (ld_blt I hg hm boot_enumerate (PyProof.Rows.callWith_type1 (thn (ha.run pos pins s σ H _ I h) ?_) hs rfl))
  rintro us s1 ⟨vs, H1, I1, r1, a, xs, rfl, hq, q⟩
  obtain ⟨u, rfl, ru⟩ := vals1 r1
  cases ru
  obtain ⟨its, rv, tup, _⟩ := I1.tuple hq
  have la : a < s1.heap.objs.size := let ⟨_, e, _⟩ := tup; Heap.lt_size e
  refine call_enum tup fun h' he hit hsz hk => wpAny_pyIter_enum he ?_
  refine ⟨s1.heap.objs.size + 1, [s1.heap.objs.size + 1, s1.heap.objs.size], _, _, H1, rfl, I1.kept (t' := s1.toks) hk, turn_enumT a (s1.heap.objs.size + 1) s1.heap.objs.size (Nat.ne_of_lt (Nat.lt_succ_of_lt la)) (Nat.ne_of_lt la), ⟨⟨.none, he⟩, hit, Nat.succ_ne_self _⟩, fun b hb => ?_, q⟩
  have far : s1.heap.objs.size ≤ b := by
    rcases (show b = s1.heap.objs.size + 1 ∨ b = s1.heap.objs.size by simpa using hb) with z | z
    · rw [z]
      exact Nat.le_succ _
    · rw [z]
      exact Nat.le_refl _
  exact I1.fpOk far (I1.hok.fresh far)
end Vm
namespace Vm
open PySem L2
/-- the places of the columns that belong to the key -/
def places (cols ks : List Str) (n : Nat) : List Nat := (List.range n).filter fun i => ks.any (· == cols.getD i Str.empty)
def sameAt (xs ys : List V) (i : Nat) : Bool := decide (xs.getD i .non = ys.getD i .non)
def clashB (cols ks : List Str) (xs ys : List V) : Bool := decide (0 < (places cols ks cols.length).length) && (places cols ks cols.length).all (sameAt xs ys)
def spColumns (K : PySem.W.Frag) (C : Addr) : Sp := fun vs H Q _ => ∃ (a : Addr) (nm : Str) (ss zs ks : List Str), vs = [.ref a] ∧ Tb K H C a nm ss zs ks ∧ ∀ (q : Addr) (H' : Hp), Same H H' → TupE K H' q ((ss ++ zs).map V.str) → Q (.ref q) H'
def spClash (K : PySem.W.Frag) (C : Addr) : Sp := fun vs H Q _ => ∃ (a p q : Addr) (nm : Str) (ss zs ks : List Str) (xs ys : List V), vs = [.ref a, .ref p, .ref q] ∧ Tb K H C a nm ss zs ks ∧ SqT K H p xs ∧ SqT K H q ys ∧
  xs.length = ss.length + zs.length ∧ ys.length = ss.length + zs.length ∧ (∀ (i : Nat) x y, xs[i]? = some x → ys[i]? = some y → scal x y = true) ∧ ∀ H', Same H H' → Q (.bl (clashB (ss ++ zs) ks xs ys)) H'
theorem places_succ (cols ks : List Str) (n : Nat) : places cols ks (n + 1) = if ks.any (· == cols.getD n Str.empty) = true then places cols ks n ++ [n] else places cols ks n := by
  unfold places
  rw [List.range_succ, List.filter_append]
  by_cases e : ks.any (· == cols.getD n Str.empty) = true
  · rw [if_pos e]
    simp only [List.filter_cons, List.filter_nil]
    rw [if_pos e]
  · rw [if_neg e]
    simp only [List.filter_cons, List.filter_nil]
    rw [if_neg e, List.append_nil]
theorem places_le (cols ks : List Str) (n : Nat) : (places cols ks n).length ≤ n := by
  have h := List.length_filter_le (fun i => ks.any (· == cols.getD i Str.empty)) (List.range n)
  rw [List.length_range] at h
  exact h
theorem places_mem {cols ks : List Str} {n i j : Nat} (h : (places cols ks n)[j]? = some i) : i < n := by
  have m := List.mem_of_getElem? h
  exact List.mem_range.mp (List.mem_filter.mp m).1
theorem inV_str (z : Str) : ∀ ks : List Str, inV (.str z) (ks.map V.str) = ks.any (· == z)
  | [] => rfl
  | k :: r => by
    have ih := inV_str z r
    unfold inV at ih ⊢
    rw [List.map_cons, List.any_cons, List.any_cons, ih]
    rfl
theorem flat_strs : ∀ ks : List Str, (ks.map V.str).all flatV = true
  | [] => rfl
  | k :: r => by
    rw [List.map_cons, List.all_cons, flat_strs r]
    rfl
section
variable {P : Program} {w : World} {K : PySem.W.Frag} {mg : Str → Option Value} {base : Heap} {fNm fNms fCols fKey C CI pC gC : Addr} {fdG : FuncData}
theorem scColumns : FnScope ["self"] ["self"] (defScope sColumns) := ⟨rfl, rfl, rfl, by decide +kernel, rfl, by decide +kernel, by decide +kernel⟩
theorem ok_columns {f : Addr} {fd : FuncData} (F : Fun K "columns" "Table.columns" sColumns f fd) (U : TxtT K mg C CI fCols fKey) : FnOk P w K mg base CX0 1 f fd ["self"] (spColumns K C) := by
  refine F.ok scColumns (fun vs H Q E h => ?_) (fun cdv A outer s H vs Q E hr h => ?_)
  · obtain ⟨a, nm, ss, zs, ks, rfl, _⟩ := h
    rfl
  · obtain ⟨a, nm, ss, zs, ks, rfl, tb, k⟩ := h
    obtain ⟨⟨dx, a2, a3, a4, ha, h2, h3, h4⟩, l2, l3, l4⟩ := tb
    refine ⟨_, pss_one (ps_ret (pe_op op_catE (pe_fld (pv 0) rfl) (pe_fld (pv 0) rfl))), ?_⟩
    refine ⟨_, rfl, a, C, dx, _, _, rfl, ha, U.cl, U.n2, rfl, _, rfl, a, C, dx, _, _, rfl, ha, U.cl, U.n3, rfl, a2, a3, _, _, rfl, rfl, h2, h3, ?_, fun q H' s' hq _ => k q H' s' (by rw [List.map_append]; exact hq)⟩
    have : sizeLine > 4 := by decide
    rw [List.length_map, List.length_map]
    omega
theorem scClash : FnScope ["self", "one", "other", "places", "place", "column"] ["self", "one", "other"] (defScope sClash) := ⟨rfl, rfl, rfl, by decide +kernel, rfl, by decide +kernel, by decide +kernel⟩
theorem ok_clash {f : Addr} {fd : FuncData} (F : Fun K "clash" "Table.clash" sClash f fd) (T : TxtP K mg fNm fNms) (U : TxtT K mg C CI fCols fKey) (gE : mg "enumerate" = none)
    (pp : PropOf K C "columns" pC gC) (GG : FnOk P w K mg base CX0 1 gC fdG ["self"] (spColumns K C)) (bG : Binds K fdG ["self"] []) : FnOk P w K mg base CX0 3 f fd ["self", "one", "other"] (spClash K C) := by
  refine F.ok scClash (fun vs H Q E h => ?_) (fun cdv A outer s H vs Q E hr h => ?_)
  · obtain ⟨a, p, q, nm, ss, zs, ks, xs, ys, rfl, _⟩ := h
    rfl
  · obtain ⟨a, p, q, nm, ss, zs, ks, xs, ys, rfl, tb, hp, hq, lx, ly, sc, k⟩ := h
    have tb0 := tb
    obtain ⟨⟨dx, a2, a3, a4, ha, h2, h3, h4⟩, l2, l3, l4⟩ := tb
    have h2 := h2.sq
    have h3 := h3.sq
    have h4 := h4.sq
    refine ⟨_, pss_cons (ps_setLc (i := 3) (own := [("place", 4), ("column", 5)]) (g := gTup K 2 (gCons (gName 4) (gCons (gName 5) gNil))) (tt := tTest (tOp (rIn K false) (tVar 5) (tFld K (tVar 0) "key"))) (te := tVar 4) rfl scClash.nd rfl rfl (sw_true rfl rfl rfl (by decide +kernel))
          (pi_enumT rfl gE (pa_cons (pe_prop (pv 0) U.cl pp GG hr bG .nil pass0 rfl) pa_nil))
          (blkOk_by (N := ["self", "one", "other", "places", "place", "column"]) (sc := defScope sClash) (by decide +kernel))
          (fun _ _ _ _ _ => by exact (pg_tup rfl (by exact (pgs_cons (pg_name (i := 4) scClash.nd rfl (Or.inl rfl)) (by exact (pgs_cons (pg_name (i := 5) scClash.nd rfl (Or.inl rfl)) pgs_nil))))))
          (fun _ _ _ _ _ => by exact (pts_one (pt_cmpR op_in_seq (pv 5) (pe_fld (pv 0) rfl) (by rfl))))
          (fun _ _ _ _ _ => by exact (pv 4)))
      (pss_one (ps_ret (pe_and (pe_cmpR op_gt (pe_callB call_len_seq (by rfl) T.len (by decide +kernel) (pa_cons (pv 3) pa_nil)) pe_int (nomark _))
        (pe_one (pe_callB (cr_all rfl) (by rfl) T.all (by decide +kernel) (pa_cons (pe_lc (own := [("place", 4)]) (g := gName 4) (tt := tYes) (te := tOp rEq (tOp (rIxT K) (tVar 1) (tVar 4)) (tOp (rIxT K) (tVar 2) (tVar 4))) rfl scClash.nd (pi_list (pv 3))
          (blkOk_by (N := ["self", "one", "other", "places", "place", "column"]) (sc := defScope sClash) (by decide +kernel)) (fun _ _ _ _ _ => pg_name (i := 4) scClash.nd rfl (Or.inl rfl)) (fun _ _ _ _ _ => pts_nil)
          (fun _ _ _ _ _ => by exact (pe_cmpR op_eq (pe_ix ix_tup (pv 1) (pv 4) (fun _ _ => rfl)) (pe_ix ix_tup (pv 2) (pv 4) (fun _ _ => rfl)) (nomark _)))) pa_nil)))))), ?_⟩
    have few : (ss ++ zs).length ≤ 4 := by
      rw [List.length_append]
      omega
    have big : sizeLine > 8 := by decide
    refine ⟨_, rfl, a, dx, _, rfl, ha, a, nm, ss, zs, ks, rfl, tb0, fun q1 H1 s1 hq1' => ⟨q1, (ss ++ zs).map V.str, rfl, hq1'.sq, fun D hD => ?_⟩⟩
    have hq1 := hq1'.sq
    refine lc_it (walk_enumT (K := K) (a := q1) (xs := (ss ++ zs).map V.str)) (fun i H' => Same H1 H' ∧ H' D = some (.lst ((places (ss ++ zs) ks i).map fun j => V.int (j : Nat)))) ⟨same_upd hD, upd_same⟩ (fun i H' _ z => sameT z.1 hq1) ?_ ?_
    · rintro i x H2 H3 hi ⟨s2, e2⟩ ⟨T1, x1, x2, rfl, hT, rfl, g1, g2⟩
      cases g1
      obtain ⟨z, ez, rfl⟩ := map_at g2
      have s3 : Same H2 (upd H2 T1 (.tup [.int (i : Nat), .str z])) := same_upd hT
      have s13 := (s1.trans s2).trans s3
      have zi : (ss ++ zs).getD i Str.empty = z := by
        rw [List.getD_eq_getElem?_getD, ez]
        rfl
      have ps := places_succ (ss ++ zs) ks i
      rw [zi] at ps
      refine ⟨T1, _, rfl, SqT.of upd_same, rfl, _, _, rfl, _, _, rfl, rfl, rfl, ?_⟩
      refine ⟨_, rfl, _, rfl, a, C, dx, _, _, rfl, s13 _ _ ha, U.cl, U.n4, rfl, a4, ks.map V.str, rfl, .inr (sameT s13 h4), rfl, flat_strs ks, _, rfl, ?_⟩
      show if inV (.str z) (ks.map V.str) = true then _ else _
      rw [inV_str]
      refine iteB (fun e => ?_) (fun e => ?_)
      · refine ⟨_, rfl, _, s3 _ _ e2, ?_, fun b o y => ?_, ?_⟩
        · rw [List.length_map]
          have := places_le (ss ++ zs) ks i
          rw [List.length_map] at hi
          omega
        · rw [upd_ne (ne_of_none y hD)]
          exact s3 _ _ (s2 b o y)
        · rw [upd_same, ps, if_pos e, List.map_append]
          rfl
      · refine ⟨s2.trans s3, ?_⟩
        rw [ps, if_neg (by rw [e]; decide)]
        exact s3 _ _ e2
    · rintro H2 ⟨s2, e2⟩
      rw [List.length_map] at e2
      have s12 := s1.trans s2
      generalize hp' : places (ss ++ zs) ks (ss ++ zs).length = pl at e2
      have lp : pl.length ≤ 4 := by
        have := places_le (ss ++ zs) ks (ss ++ zs).length
        rw [hp'] at this
        omega
      have cb : clashB (ss ++ zs) ks xs ys = (decide (0 < pl.length) && pl.all (sameAt xs ys)) := by
        unfold clashB
        rw [hp']
      rw [cb] at k
      refine ⟨_, rfl, D, _, rfl, .inl (SqL.of e2), _, _, rfl, rfl, _, rfl, ?_⟩
      rw [List.length_map]
      refine ite_ (fun c => ?_) (fun c => ?_)
      · rw [decide_eq_true (show 0 < pl.length by omega), Bool.true_and] at k
        refine ⟨_, rfl, D, rfl, ⟨_, SqL.of e2⟩, fun D2 hD2 => ?_⟩
        refine lc_list (K := K) (a := D) (xs := pl.map fun j => V.int (j : Nat)) (fun i H' => Same H2 H' ∧ H' D2 = some (.lst (((pl.take i).map (sameAt xs ys)).map V.bl))) ⟨same_upd hD2, upd_same⟩ (fun i H' _ z => SqL.of (z.1 _ _ e2)) ?_ ?_
        · rintro i y H3 hi ⟨s3, e3⟩
          rw [List.getElem?_map] at hi
          cases ej : pl[i]? with
          | none =>
            rw [ej] at hi
            cases hi
          | some j =>
            rw [ej] at hi
            cases hi
            have jl : j < (ss ++ zs).length := places_mem (cols := ss ++ zs) (ks := ks) (by rw [hp']; exact ej)
            rw [List.length_append] at jl
            have jx : xs[j]? = some (xs.getD j .non) := by
              rw [List.getD_eq_getElem?_getD, List.getElem?_eq_getElem (by omega)]
              rfl
            have jy : ys[j]? = some (ys.getD j .non) := by
              rw [List.getD_eq_getElem?_getD, List.getElem?_eq_getElem (by omega)]
              rfl
            refine ⟨rfl, ?_⟩
            dsimp only [tYes]
            rw [if_pos rfl]
            refine ⟨_, rfl, _, rfl, p, xs, _, _, rfl, rfl, sameT (s12.trans s3) hp, atI_nat jx, _, rfl, _, rfl, q, ys, _, _, rfl, rfl, sameT (s12.trans s3) hq, atI_nat jy, sc j _ _ jx jy, ?_⟩
            refine ⟨_, e3, ?_, fun b o y => ?_, ?_⟩
            · rw [List.length_map, List.length_map, List.length_take]
              omega
            · rw [upd_ne (ne_of_none y hD2)]
              exact s3 b o y
            · rw [upd_same, List.take_add_one, ej]
              simp [sameAt]
        · rintro H3 ⟨s3, e3⟩
          refine ⟨D2, _, rfl, SqL.of e3, ?_⟩
          rw [List.length_map, List.take_length, List.all_map]
          exact k H3 (s12.trans s3)
      · rw [decide_eq_false (show ¬ 0 < pl.length by omega), Bool.false_and] at k
        exact k H2 s12
end
end Vm
namespace Vm
open PySem L2
/-- one of the items, or of the signs, by a draw -/
def spPick (K : PySem.W.Frag) : Sp := fun vs H Q _ => ∃ (s l : Addr) (y : V) (ms : List Int) (z b : Int), vs = [.ref s, y] ∧ Src H s l ms z b ∧ 0 ≤ b ∧ b < 1000000 ∧
  ((∃ (p : Addr) (xs : List V), y = .ref p ∧ (∀ H', But s l H H' → SqL K H' p xs) ∧ 0 < xs.length ∧ xs.length ≤ 1000 ∧ ∀ (H' : Hp) (ms' : List Int) (v : V), But s l H H' → Src H' s l ms' z (b + 1) → v ∈ xs → Q v H') ∨
    ∃ t : Str, y = .str t ∧ 0 < t.length ∧ t.length ≤ 1000 ∧ ∀ (H' : Hp) (ms' : List Int) (c : Nat), But s l H H' → Src H' s l ms' z (b + 1) → c ∈ t.cps.toList → Q (.str ⟨#[c]⟩) H')
structure TxtL (K : PySem.W.Frag) (mg : Str → Option Value) (fD fP : Addr) : Prop extends TxtA K mg where
  gD : mg "_law_draw" = some (.ref fD)
  kD : PySem.W.keepIn K (.ref fD) = true
  gP : mg "_law_pick" = some (.ref fP)
  kP : PySem.W.keepIn K (.ref fP) = true
section
variable {P : Program} {w : World} {K : PySem.W.Frag} {mg : Str → Option Value} {base : Heap} {fD fP : Addr}
theorem scPick : FnScope ["_law_source_here", "_law_items"] ["_law_source_here", "_law_items"] (defScope sPick) := ⟨rfl, rfl, rfl, by decide +kernel, rfl, by decide +kernel, by decide +kernel⟩
theorem ok_pick {f : Addr} {fd fdD : FuncData} (F : Fun K "_law_pick" "_law_pick" sPick f fd) (T : TxtL K mg fD fP) (GD : FnOk P w K mg base CX0 1 fD fdD ["_law_source_here", "_law_many"] spDraw) (bD : Binds K fdD ["_law_source_here", "_law_many"] []) :
    FnOk P w K mg base CX0 2 f fd ["_law_source_here", "_law_items"] (spPick K) := by
  refine F.ok scPick (fun vs H Q E h => ?_) (fun cdv A outer s H vs Q E hr h => ?_)
  · obtain ⟨s, l, y, ms, z, b, rfl, _⟩ := h
    rfl
  · obtain ⟨a, l, y, ms, z, b, rfl, hs, b0, b1, h⟩ := h
    refine ⟨_, pss_one (ps_ret (pe_ix ix_seq (pv 1) (pe_call GD hr rfl T.gD T.kD bD .nil pass0 (pa_cons (pv 0) (pa_cons (pe_callB call_len (by rfl) T.len (by decide +kernel) (pa_cons (pv 1) pa_nil)) pa_nil))) (fun _ _ => rfl))), ?_⟩
    rcases h with ⟨p, xs, rfl, st, x0, x1, k⟩ | ⟨t, rfl, x0, x1, k⟩
    · refine ⟨_, rfl, _, rfl, _, rfl, _, xs.length, rfl, .inl ⟨xs, st H (fun _ _ _ _ e => e), rfl⟩, a, l, ms, z, b, xs.length, rfl, hs, by omega, by omega, b0, b1, fun H' ms' r k1 hs1 r0 r1 => ?_⟩
      obtain ⟨j, rfl⟩ : ∃ j : Nat, r = (j : Int) := ⟨r.toNat, by omega⟩
      have hj : j < xs.length := by omega
      exact .inl ⟨p, xs, j, xs[j], rfl, rfl, st H' k1, atI_nat (List.getElem?_eq_getElem hj), k H' ms' _ k1 hs1 (List.getElem_mem hj)⟩
    · have big : sizeLine > 1000 := by decide
      refine ⟨_, rfl, _, rfl, _, rfl, _, t.length, rfl, ⟨by omega, rfl⟩, a, l, ms, z, b, t.length, rfl, hs, by omega, by omega, b0, b1, fun H' ms' r k1 hs1 r0 r1 => ?_⟩
      obtain ⟨j, rfl⟩ : ∃ j : Nat, r = (j : Int) := ⟨r.toNat, by omega⟩
      have hl : t.length = t.cps.toList.length := by
        show t.cps.size = _
        simp
      have hj : j < t.cps.toList.length := by omega
      exact .inr (.inr ⟨t, j, t.cps.toList[j], rfl, rfl, by omega, atI_nat (List.getElem?_eq_getElem hj), k H' ms' _ k1 hs1 (List.getElem_mem hj)⟩)
end
end Vm
namespace Vm
open PySem L2
/-- a tuple stays while the source goes on -/
theorem But.sqT {K : PySem.W.Frag} {s l a : Addr} {H H' : Hp} {ms : List Int} {z b : Int} {xs : List V} (k : But s l H H') (hs : Src H s l ms z b) (h : SqT K H a xs) : SqT K H' a xs := by
  have ne : ∀ {o : HO}, H a = some o → (∀ ys, o ≠ .lst ys) → a ≠ s ∧ a ≠ l := fun {o} e n => by
    refine ⟨fun q => ?_, fun q => ?_⟩
    · rw [q, hs.hs] at e
      exact n _ (Option.some.inj e).symm
    · rw [q, hs.hl] at e
      exact n _ (Option.some.inj e).symm
  rcases h with (h | ⟨o, h⟩) | h
  · obtain ⟨n1, n2⟩ := ne h fun ys q => nomatch q
    exact .inl (.inl (k _ _ n1 n2 h))
  · obtain ⟨n1, n2⟩ := ne h fun ys q => nomatch q
    exact .inl (.inr ⟨o, k _ _ n1 n2 h⟩)
  · exact .inr h
theorem Src.free {s l : Addr} {H : Hp} {ms : List Int} {z b : Int} (h : Src H s l ms z b) {c : Addr} (e : H c = none) : c ≠ s ∧ c ≠ l := by
  refine ⟨fun q => ?_, fun q => ?_⟩
  · rw [q, h.hs] at e
    cases e
  · rw [q, h.hl] at e
    cases e
theorem But.back {s l : Addr} {H H' : Hp} {ms : List Int} {z b : Int} (k : But s l H H') (h : Src H' s l ms z b) {c : Addr} (e : H' c = none) : H c = none := by
  obtain ⟨n1, n2⟩ := h.free e
  cases q : H c with
  | none => rfl
  | some o =>
    rw [k c o n1 n2 q] at e
    cases e
end Vm
/-! data with the addresses out of sight: they keep a wish P -/
namespace Vm
open PySem L2
def DP (K : PySem.W.Frag) (H : Hp) (P : Addr → Prop) (v : V) (t : Tr) (n : Nat) : Prop := ∃ bs, Dt K H v t n bs ∧ ∀ b ∈ bs, P b
def DPs (K : PySem.W.Frag) (H : Hp) (P : Addr → Prop) (vs : List V) (ts : List Tr) (n : Nat) : Prop := ∃ bs, DtAll K H vs ts n bs ∧ ∀ b ∈ bs, P b
section
variable {K : PySem.W.Frag} {H H' : Hp} {P : Addr → Prop}
theorem DP.lvl {v : V} {t : Tr} {n m : Nat} (d : DP K H P v t n) (h : n ≤ m) : DP K H P v t m := let ⟨bs, d, p⟩ := d; ⟨bs, d.lvl h, p⟩
theorem DPs.lvl {v : List V} {t : List Tr} {n m : Nat} (d : DPs K H P v t n) (h : n ≤ m) : DPs K H P v t m := let ⟨bs, d, p⟩ := d; ⟨bs, d.lvl h, p⟩
theorem DP.keep {v : V} {t : Tr} {n : Nat} (d : DP K H P v t n) (k : ∀ b o, P b → H b = some o → H' b = some o) : DP K H' P v t n := let ⟨bs, d, p⟩ := d; ⟨bs, d.keep fun b hb o e => k b o (p b hb) e, p⟩
theorem DPs.keep {v : List V} {t : List Tr} {n : Nat} (d : DPs K H P v t n) (k : ∀ b o, P b → H b = some o → H' b = some o) : DPs K H' P v t n := let ⟨bs, d, p⟩ := d; ⟨bs, d.keep fun b hb o e => k b o (p b hb) e, p⟩
theorem DP.same {v : V} {t : Tr} {n : Nat} (d : DP K H P v t n) (k : Same H H') : DP K H' P v t n := d.keep fun b o _ e => k b o e
theorem DPs.same {v : List V} {t : List Tr} {n : Nat} (d : DPs K H P v t n) (k : Same H H') : DPs K H' P v t n := d.keep fun b o _ e => k b o e
theorem DP.imp {Q : Addr → Prop} {v : V} {t : Tr} {n : Nat} (d : DP K H P v t n) (k : ∀ b, P b → Q b) : DP K H Q v t n := let ⟨bs, d, p⟩ := d; ⟨bs, d, fun b hb => k b (p b hb)⟩
theorem DPs.imp {Q : Addr → Prop} {v : List V} {t : List Tr} {n : Nat} (d : DPs K H P v t n) (k : ∀ b, P b → Q b) : DPs K H Q v t n := let ⟨bs, d, p⟩ := d; ⟨bs, d, fun b hb => k b (p b hb)⟩
theorem DP.non {n : Nat} : DP K H P .non .non n := ⟨[], .non, fun _ h => nomatch h⟩
theorem DP.bl {n : Nat} (b : Bool) : DP K H P (.bl b) (.bl b) n := ⟨[], .bl b, fun _ h => nomatch h⟩
theorem DP.int {n : Nat} {i : Int} (h : i.natAbs.log2 < 1920) : DP K H P (.int i) (.int i) n := ⟨[], .int h, fun _ h => nomatch h⟩
theorem DP.str {n : Nat} {x : Str} (h : (reprText x).length ≤ sizeLine) (hz : x.length ≤ sizeLine) : DP K H P (.str x) (.str x) n := ⟨[], .str h hz, fun _ h => nomatch h⟩
theorem DPs.nil {n : Nat} : DPs K H P [] [] n := ⟨[], .nil, fun _ h => nomatch h⟩
theorem DPs.cons {v : V} {t : Tr} {vs : List V} {ts : List Tr} {n : Nat} (d : DP K H P v t n) (e : DPs K H P vs ts n) : DPs K H P (v :: vs) (t :: ts) n :=
  let ⟨bs, d, p⟩ := d
  let ⟨cs, e, q⟩ := e
  ⟨bs ++ cs, .cons d e, fun b hb => (List.mem_append.mp hb).elim (p b) (q b)⟩
theorem DPs.append {vs us : List V} {ts ws : List Tr} {n : Nat} (d : DPs K H P vs ts n) (e : DPs K H P us ws n) : DPs K H P (vs ++ us) (ts ++ ws) n :=
  let ⟨bs, d, p⟩ := d
  let ⟨cs, e, q⟩ := e
  ⟨bs ++ cs, d.append e, fun b hb => (List.mem_append.mp hb).elim (p b) (q b)⟩
theorem DPs.length {vs : List V} {ts : List Tr} {n : Nat} (d : DPs K H P vs ts n) : vs.length = ts.length := let ⟨_, d, _⟩ := d; d.length
theorem DPs.take {vs : List V} {ts : List Tr} {n : Nat} (d : DPs K H P vs ts n) (i : Nat) : DPs K H P (vs.take i) (ts.take i) n :=
  let ⟨bs, d, p⟩ := d
  let ⟨⟨cs, d', s⟩, _⟩ := d.part i
  ⟨cs, d', fun b hb => p b (s b hb)⟩
theorem DPs.drop {vs : List V} {ts : List Tr} {n : Nat} (d : DPs K H P vs ts n) (i : Nat) : DPs K H P (vs.drop i) (ts.drop i) n :=
  let ⟨bs, d, p⟩ := d
  let ⟨_, ⟨cs, d', s⟩⟩ := d.part i
  ⟨cs, d', fun b hb => p b (s b hb)⟩
theorem DPs.get {vs : List V} {ts : List Tr} {n : Nat} (d : DPs K H P vs ts n) {i : Nat} {v : V} (e : vs[i]? = some v) : ∃ t, ts[i]? = some t ∧ DP K H P v t n :=
  let ⟨bs, d, p⟩ := d
  let ⟨t, cs, e1, d1, s⟩ := d.get e
  ⟨t, e1, cs, d1, fun b hb => p b (s b hb)⟩
theorem DPs.reverse {n : Nat} : ∀ {vs : List V} {ts : List Tr}, DPs K H P vs ts n → DPs K H P vs.reverse ts.reverse n
  | _, _, ⟨_, .nil, _⟩ => .nil
  | v :: vs, t :: ts, ⟨_, .cons (bs := bs) (cs := cs) h r, p⟩ => by
    rw [List.reverse_cons, List.reverse_cons]
    exact (DPs.reverse ⟨cs, r, fun b hb => p b (List.mem_append_right _ hb)⟩).append (.cons ⟨bs, h, fun b hb => p b (List.mem_append_left _ hb)⟩ .nil)
theorem DP.mem {n : Nat} : ∀ {vs : List V} {ts : List Tr}, DPs K H P vs ts n → ∀ {v : V}, v ∈ vs → ∃ t ∈ ts, DP K H P v t n := fun {vs ts} d {v} h => by
  obtain ⟨i, hi, e⟩ := List.mem_iff_getElem.mp h
  obtain ⟨t, e2, d2⟩ := d.get (show vs[i]? = some v by rw [List.getElem?_eq_getElem hi, e])
  exact ⟨t, List.mem_of_getElem? e2, d2⟩
/-- a new tuple, a new list of data -/
theorem DPs.tup {vs : List V} {ts : List Tr} {n : Nat} {p : Addr} {o : Obj} (d : DPs K H P vs ts n) (hp : H p = none) (hP : P p) (hd : o.dict = none) : DP K (upd H p (.frz o (.tup vs))) P (.ref p) (.tup ts) (n + 1) :=
  let ⟨bs, d, q⟩ := d
  ⟨p :: bs, .tup upd_same hd (d.keep fun b _ o e => by
    rw [upd_ne (ne_of_none e hp)]
    exact e) (fun hm => by
      obtain ⟨o, e⟩ := d.there p hm
      rw [hp] at e
      cases e), fun b hb => (List.mem_cons.mp hb).elim (fun e => e ▸ hP) (q b)⟩
theorem DPs.lst {vs : List V} {ts : List Tr} {n : Nat} {p : Addr} (d : DPs K H P vs ts n) (hp : H p = none) (hP : P p) : DP K (upd H p (.lst vs)) P (.ref p) (.lst ts) (n + 1) :=
  let ⟨bs, d, q⟩ := d
  ⟨p :: bs, .lst upd_same (d.keep fun b _ o e => by
    rw [upd_ne (ne_of_none e hp)]
    exact e) (fun hm => by
      obtain ⟨o, e⟩ := d.there p hm
      rw [hp] at e
      cases e), fun b hb => (List.mem_cons.mp hb).elim (fun e => e ▸ hP) (q b)⟩
theorem DP.emptyDict {n : Nat} {p : Addr} (hP : P p) : DP K (upd H p (.dK [])) P (.ref p) (.dct [] []) (n + 1) :=
  ⟨[p], .dct (kvs := []) (bs := []) upd_same (fun _ h => nomatch h) .nil (fun h => nomatch h), fun b hb => List.mem_singleton.mp hb ▸ hP⟩
theorem DP.tupD {v : V} {t : Tr} {n : Nat} (d : DP K H P v t n) (h : isTup t = true) : ∃ (a : Addr) (xs : List V) (ts : List Tr) (m : Nat), v = .ref a ∧ t = .tup ts ∧ m < n ∧ TupE K H a xs ∧ DPs K H P xs ts m :=
  let ⟨bs, d, p⟩ := d
  let ⟨a, xs, ts, m, cs, e1, e2, l, te, r, s⟩ := d.tupD h
  ⟨a, xs, ts, m, e1, e2, l, te, cs, r, fun b hb => p b (s b hb)⟩
end
/-! sizes -/
mutual
/-- more than the text's length -/
def Tr.w : Tr → Nat
  | .tup xs => 3 + ws xs
  | .lst xs => 3 + ws xs
  | .non => 4
  | .bl _ => 5
  | .int i => (toString i : Str).length
  | .str x => (reprText x).length
  | .dct ks xs => (dictText (List.zipWith entryText (ks.map keyText) (texts xs))).length
def ws : List Tr → Nat
  | [] => 0
  | x :: r => (x.w + 2) + ws r
end
theorem ws_append : ∀ a b : List Tr, ws (a ++ b) = ws a + ws b
  | [], b => by
    show ws b = 0 + ws b
    omega
  | x :: r, b => by
    have h := ws_append r b
    show (x.w + 2) + ws (r ++ b) = (x.w + 2) + ws r + ws b
    omega
theorem ws_split (a : List Tr) (i : Nat) : ws (a.take i) + ws (a.drop i) = ws a := by
  rw [← ws_append, List.take_append_drop]
theorem ws_rev : ∀ a : List Tr, ws a.reverse = ws a
  | [] => rfl
  | x :: r => by
    have h := ws_rev r
    rw [List.reverse_cons, ws_append, h]
    show ws r + ((x.w + 2) + 0) = (x.w + 2) + ws r
    omega
theorem tupText_le (ts : List Str) : (tupleText ts).length ≤ 3 + ((ts.map (·.length)).sum + 2 * ts.length) := by
  have e2 := StrLaws.join_length_le ", " ts
  have e4 : (("(" : String) : Str).length = 1 := by decide +kernel
  have e5 : (((if (ts.length == 1) = true then ",)" else ")" : String)) : Str).length ≤ 2 := by
    split <;> decide +kernel
  have e6 : ((", " : String) : Str).length = 2 := by decide +kernel
  unfold tupleText
  rw [strLen_append, strLen_append]
  rw [e6] at e2
  omega
theorem lstText_le (ts : List Str) : (listText ts).length ≤ 3 + ((ts.map (·.length)).sum + 2 * ts.length) := by
  have e2 := textFrom_len_le ts 0 "["
  have e4 : (("[" : String) : Str).length = 1 := by decide +kernel
  have e5 : ((("]" : String) : Str)).length = 1 := by decide +kernel
  unfold listText
  rw [strLen_append]
  omega
mutual
theorem Tr.text_le : ∀ t : Tr, t.text.length ≤ t.w
  | .non => by
    show (("None" : String) : Str).length ≤ 4
    decide +kernel
  | .bl true => by
    show (("True" : String) : Str).length ≤ 5
    decide +kernel
  | .bl false => by
    show (("False" : String) : Str).length ≤ 5
    decide +kernel
  | .int i => Nat.le_refl _
  | .str x => Nat.le_refl _
  | .lst xs => by
    have h := texts_le xs
    have e := lstText_le (texts xs)
    show (listText (texts xs)).length ≤ 3 + ws xs
    omega
  | .tup xs => by
    have h := texts_le xs
    have e := tupText_le (texts xs)
    show (tupleText (texts xs)).length ≤ 3 + ws xs
    omega
  | .dct ks xs => Nat.le_refl _
theorem texts_le : ∀ ts : List Tr, ((texts ts).map (·.length)).sum + 2 * (texts ts).length ≤ ws ts
  | [] => Nat.zero_le _
  | x :: r => by
    have h1 := x.text_le
    have h2 := texts_le r
    show ((x.text :: texts r).map (·.length)).sum + 2 * (x.text :: texts r).length ≤ (x.w + 2) + ws r
    rw [List.map_cons, List.sum_cons, List.length_cons]
    omega
end
/-- away from the source of draws -/
def Off (s l : Addr) (b : Addr) : Prop := b ≠ s ∧ b ≠ l
theorem DP.but {K : PySem.W.Frag} {H H' : Hp} {s l : Addr} {v : V} {t : Tr} {n : Nat} (d : DP K H (Off s l) v t n) (k : But s l H H') : DP K H' (Off s l) v t n := d.keep fun b o p e => k b o p.1 p.2 e
theorem DPs.but {K : PySem.W.Frag} {H H' : Hp} {s l : Addr} {v : List V} {t : List Tr} {n : Nat} (d : DPs K H (Off s l) v t n) (k : But s l H H') : DPs K H' (Off s l) v t n := d.keep fun b o p e => k b o p.1 p.2 e
theorem Src.off {s l : Addr} {H : Hp} {ms : List Int} {z b : Int} (h : Src H s l ms z b) : ∀ c, H c = none → Off s l c := fun c e => h.free e
end Vm
/-! rules over data: slices, sums, displays -/
namespace Vm
open PySem PySem.Spec PyProof.Rows L2
def cutL {α : Type} (xs : List α) (lo hi : Option Int) : List α := (xs.drop (HT.sIx xs.length 0 lo)).take (HT.sIx xs.length xs.length hi - HT.sIx xs.length 0 lo)
section
variable {X : Cx}
theorem _root_.L2.PE.wk {e : Expr} {t t' : TE} (h : PE X e t') (m : ∀ σ H Q, t σ H Q → t' σ H Q) : PE X e t := ⟨fun pins s σ H Q I hq => h.run pins s σ H Q I (m _ _ _ hq)⟩
theorem _root_.L2.PA.wk {e : List Expr} {t t' : TA} (h : PA X e t') (m : ∀ σ H Q, t σ H Q → t' σ H Q) : PA X e t := ⟨fun pos pins s σ H Q I hq => h.run pos pins s σ H Q I (m _ _ _ hq)⟩
/-- t[lo:hi] -/
def rSlD (K : PySem.W.Frag) : V → Option Int → Option Int → Hp → VK → Prop := fun x lo hi H Q => ∃ (P : Addr → Prop) (ts : List Tr) (n : Nat), DP K H P x (.tup ts) (n + 1) ∧ (∀ b, H b = none → P b) ∧
  ∀ v H', Same H H' → DP K H' P v (.tup (cutL ts lo hi)) (n + 1) → Q v H'
theorem sl_D : SlR X (rSlD X.K) := by
  intro pins s σ H x v vl vu lo hi sl Q I rx hs pl pu h
  obtain ⟨P, ts, n, d, free, k⟩ := h
  obtain ⟨a, xs, ts', m, rfl, et, lt, te, r⟩ := d.tupD rfl
  cases et
  have len := r.length
  refine sl_tupF pins s σ H _ v vl vu lo hi sl Q I rx hs pl pu ⟨a, xs, rfl, te.sq, fun hw => ?_, fun p o hp hd => ?_⟩
  · refine k _ H (Same.refl H) ?_
    have e : cutL ts lo hi = ts := by
      unfold cutL
      rw [← len, hw.1, hw.2, List.drop_zero, Nat.sub_zero, len, List.take_length]
    rw [e]
    exact d
  · refine k _ _ (same_upd hp) ?_
    have e : DPs X.K H P (cutV xs lo hi) (cutL ts lo hi) m := by
      unfold cutV cutL
      rw [← len]
      exact (r.drop _).take _
    exact (e.tup hp (free p hp) hd).lvl (by omega)
/-- t + u -/
def rCatD (K : PySem.W.Frag) : R2 := fun x y H Q => ∃ (P : Addr → Prop) (ts us : List Tr) (n : Nat), DP K H P x (.tup ts) (n + 1) ∧ DP K H P y (.tup us) (n + 1) ∧ ts.length + us.length ≤ sizeLine ∧ (∀ b, H b = none → P b) ∧
  ∀ v H', Same H H' → DP K H' P v (.tup (ts ++ us)) (n + 1) → Q v H'
theorem op_catD : OpR X (binaryOp .Add) (rCatD X.K) := by
  intro pins s σ H x y v u Q I rx ry h
  obtain ⟨P, ts, us, n, d1, d2, hz, free, k⟩ := h
  obtain ⟨a, xs, ts', m, rfl, et, lt, te, r⟩ := d1.tupD rfl
  cases et
  obtain ⟨b, ys, us', m2, rfl, et, lt2, te2, r2⟩ := d2.tupD rfl
  cases et
  have l1 := r.length
  have l2 := r2.length
  refine op_catF pins s σ H _ _ v u Q I rx ry ⟨a, b, xs, ys, rfl, rfl, te.sq, te2.sq, by omega, fun e => ?_, fun _ e => ?_, fun _ _ p o hp hd => ?_⟩
  · subst e
    have e : ts = [] := List.length_eq_zero_iff.mp l1.symm
    subst e
    exact k _ H (Same.refl H) d2
  · subst e
    have e : us = [] := List.length_eq_zero_iff.mp l2.symm
    subst e
    refine k _ H (Same.refl H) ?_
    rw [List.append_nil]
    exact d1
  · refine k _ _ (same_upd hp) ?_
    exact (((r.lvl (Nat.le_of_lt_succ lt)).append (r2.lvl (Nat.le_of_lt_succ lt2))).tup hp (free p hp) hd)
/-- t[::-1] -/
def tRevD (K : PySem.W.Frag) (te : TE) : TE := fun σ H Q => te σ H fun x H1 => ∃ (P : Addr → Prop) (ts : List Tr) (n : Nat), DP K H1 P x (.tup ts) (n + 1) ∧ (∀ b, H1 b = none → P b) ∧ ∀ v H', Same H1 H' → DP K H' P v (.tup ts.reverse) (n + 1) → Q v H'
theorem pe_revD {e : Expr} {te : TE} {k : Nat} {p1 p2 p3 pos : Pos} (he : PE X e te) : PE X (.Subscript e (.Slice none none (some (.UnaryOp .USub (.Constant (.int 1) k p1) p2)) p3) pos) (tRevD X.K te) := by
  refine ⟨fun pins s σ H Q I h => ?_⟩
  have he2 : PE X e (fun σ H Q => ∃ R : VK, te σ H R ∧ ∀ x H1, R x H1 → Q x H1) := ⟨fun pins s σ H Q I ⟨R, h1, h2⟩ => wpAny_mono (he.run pins s σ H R I h1) (fun u s' ⟨x, H', I', r', q⟩ => ⟨x, H', I', r', h2 x H' q⟩) fun _ _ e => e⟩
  refine (pe_revT (k := k) (p1 := p1) (p2 := p2) (p3 := p3) (pos := pos) he2).run pins s σ H Q I ⟨_, h, fun x H1 q => ?_⟩
  obtain ⟨P, ts, n, d, free, k⟩ := q
  obtain ⟨a, xs, ts', m, rfl, et, lt, tE, r⟩ := d.tupD rfl
  cases et
  exact ⟨a, xs, rfl, tE.sq, fun p o hp hd => k _ _ (same_upd hp) ((r.reverse.tup hp (free p hp) hd).lvl (by omega))⟩
/-- list(t) -/
theorem call_listD : CallR X (.type "list") (fun xs H Q => ∃ (P : Addr → Prop) (v : V) (ts : List Tr) (n : Nat), xs = [v] ∧ DP X.K H P v (.tup ts) (n + 1) ∧ (∀ b, H b = none → P b) ∧ ∀ v' H', Same H H' → DP X.K H' P v' (.lst ts) (n + 1) → Q v' H') := by
  intro pins s σ H xs us Q I r h
  obtain ⟨P, v, ts, n, rfl, d, free, k⟩ := h
  obtain ⟨a, xs, ts', m, rfl, et, lt, te, r2⟩ := d.tupD rfl
  cases et
  exact call_list_of pins s σ H _ us Q I r ⟨a, xs, rfl, .inr te.sq, fun p hp => k _ _ (same_upd hp) ((r2.lst hp (free p hp)).lvl (by omega))⟩
end
/-! written data: all that it lays is new -/
abbrev NewIn (H : Hp) : Addr → Prop := fun b => H b = none
def tDt (K : PySem.W.Frag) (t : Tr) (n : Nat) : TE := fun σ H Q => ∀ v H', Same H H' → DP K H' (NewIn H) v t n → Q v H'
def tDs (K : PySem.W.Frag) (ts : List Tr) (n : Nat) : TA := fun σ H Q => ∀ vs H', Same H H' → DPs K H' (NewIn H) vs ts n → Q vs H'
section
variable {X : Cx}
theorem pd_nil {n : Nat} : PA X [] (tDs X.K [] n) := pa_nil.wk fun σ H Q h => h [] H (Same.refl H) .nil
theorem pd_cons {e : Expr} {es : List Expr} {t : Tr} {ts : List Tr} {n : Nat} (ha : PE X e (tDt X.K t n)) (hr : PA X es (tDs X.K ts n)) (hs : starEach (e :: es) X.env = (false, eval e X.env) :: starEach es X.env := by rfl) : PA X (e :: es) (tDs X.K (t :: ts) n) :=
  (pa_cons ha hr hs).wk fun σ H Q h v H1 s1 d vs H2 s2 ds => h _ _ (s1.trans s2) (.cons (d.same s2) (ds.imp fun b e => s1.free e))
theorem pd_tup {es : List Expr} {ts : List Tr} {n : Nat} {pos : Pos} {x1} (h : PA X es (tDs X.K ts n)) (hz : ts.length ≤ 1000) : PE X (.Tuple es x1 pos) (tDt X.K (.tup ts) (n + 1)) :=
  (pe_tupF h).wk fun σ H Q k vs H1 s1 ds => ⟨by
    have : sizeLine > 1000 := by decide
    rw [ds.length]
    omega, fun p o hp hd => k _ _ (s1.trans (same_upd hp)) (ds.tup hp (s1.free hp) hd)⟩
theorem pd_lst {es : List Expr} {ts : List Tr} {n : Nat} {pos : Pos} (h : PA X es (tDs X.K ts n)) (hz : ts.length ≤ 1000) : PE X (.List es pos) (tDt X.K (.lst ts) (n + 1)) :=
  (pe_lst h).wk fun σ H Q k vs H1 s1 ds => ⟨by
    have : sizeLine > 1000 := by decide
    rw [ds.length]
    omega, fun p hp => k _ _ (s1.trans (same_upd hp)) (ds.lst hp (s1.free hp))⟩
theorem pd_dict {n : Nat} {pos : Pos} : PE X (.Dict [] [] pos) (tDt X.K (.dct [] []) (n + 1)) :=
  pe_dnewK.wk fun σ H Q k p hp => k _ _ (same_upd hp) (.emptyDict hp)
theorem pd_of {e : Expr} {v : V} {t : Tr} {n : Nat} (h : PE X e (tC v)) (d : ∀ H, DP X.K H (NewIn H) v t n) : PE X e (tDt X.K t n) := h.wk fun σ H Q k => k _ H (Same.refl H) (d H)
end
/-! t.index(x), of a tuple that was made here -/
section
variable {X : Cx} {o e : Expr} {es : List Expr} {to : TE} {t : TA} {apos cpos : Pos} {id : String} {r : V → List V → Hp → VK → Prop} {name : Str}
def tBMF (r : V → List V → Hp → VK → Prop) (to : TE) (t : TA) : TE := fun σ H Q => to σ H fun x H1 => (∃ (a : Addr) (ob : Obj) (xs : List V), x = .ref a ∧ H1 a = some (.frz ob (.tup xs)) ∧ ob.dict = none) ∧ t σ H1 fun xs H2 => r x xs H2 Q
theorem pe_bmF (pa : PlainAttrs "tuple") (slot : Slot "tuple" name id) (hty : typeOf (.builtin id) = pure (.type "method_descriptor")) (hm : MtR X id r) (ho : PE X o to) (ha : PA X (e :: es) t)
    (hbase : attributeBase o name X.env (eval o X.env) = eval o X.env := by rfl)
    (hfew : ((backTo cpos (starEach (e :: es) X.env)).all (fun x => !x.1) && (backToKw cpos (keywordEach [] X.env)).all (fun x => x.1.isSome)
      && decide ((e :: es).length + ([] : List Keyword).length + (if ([] : List Keyword).isEmpty then 0 else 1) < 30)) = true := by rfl)
    (hline : (apos.endLine == cpos.line) = true := by rfl) (hs : starEach (e :: es) X.env = (false, eval e X.env) :: starEach es X.env := by rfl) (hplain : (backTo cpos (starEach es X.env)).any (·.1) = false := by rfl) :
    PE X (.Call (.Attribute o name apos) (e :: es) [] cpos) (tBMF r to t) := by
  refine ⟨fun pins s σ H Q I h => ?_⟩
  refine wpAny_Call_method_late hbase hfew hline rfl (thn (ho.run pins s σ H _ I h) fun v s1 ⟨x, H1, I1, r1, ⟨a, ob, xs, ex, ha1, hd⟩, q1⟩ => ?_)
  subst ex
  cases r1
  obtain ⟨h1, _, its, _, o2, h2, hc, _⟩ := I1.hok _ _ ha1
  have e2 : o2 = ob := Option.some.inj (h2.symm.trans h1)
  subst e2
  refine ⟨"tuple", id, pa, slot, hty, ⟨_, h1, hc⟩, fun a' e' => ?_, ?_⟩
  · cases e'
    exact ⟨_, h1, hd⟩
  have hA := ha.run cpos pins s1 σ H1 _ I1 q1
  rw [hs] at hA ⊢
  refine Calls.callWith_builtin (by show (false || (backTo cpos (starEach es X.env)).any (·.1)) = false; rw [hplain] <;> rfl) (Calls.evalArgs_plain ?_)
  exact thn hA fun us s2 ⟨vs, H2, I2, r2, q2⟩ => hm pins s2 σ H2 (.ref a) vs (.ref a) us Q I2 rfl r2 q2
end
end Vm
namespace Vm
open PySem L2
theorem farOk {i : Int} (h : i.natAbs < 10 ^ 40) : i.natAbs.log2 < 1920 ∧ (Str.ofString (toString i)).length ≤ 100 := by
  refine ⟨?_, ?_⟩
  · by_cases h0 : i.natAbs = 0
    · rw [h0]
      decide
    · exact (Nat.log2_lt h0).mpr (Nat.lt_of_lt_of_le h (by decide +kernel))
  · rw [ofString_length]
    have e := int_text_length_le10 (k := 40) (by decide) h
    omega
/-- a tuple of texts that was made here -/
def TupS (H : Hp) (c : Addr) (ss : List Str) : Prop := ∃ ob : Obj, H c = some (.frz ob (.tup (ss.map V.str))) ∧ ob.dict = none
theorem TupS.same {H H' : Hp} {c : Addr} {ss : List Str} (k : Same H H') (h : TupS H c ss) : TupS H' c ss := let ⟨o, h, d⟩ := h; ⟨o, k _ _ h, d⟩
theorem TupS.sq {K : PySem.W.Frag} {H : Hp} {c : Addr} {ss : List Str} (h : TupS H c ss) : SqT K H c (ss.map V.str) := let ⟨o, h, _⟩ := h; .inl (.inr ⟨o, h⟩)
theorem idx_first {ss : List Str} {x : Str} (h : x ∈ ss) : ss[ss.idxOf x]? = some x ∧ ∀ m, m < ss.idxOf x → ss[m]? ≠ some x := by
  have lt := List.idxOf_lt_length_of_mem h
  refine ⟨by rw [List.getElem?_eq_getElem lt, List.getElem_idxOf lt], fun m hm e => ?_⟩
  have := List.not_of_lt_findIdx (p := (· == x)) (xs := ss) (i := m) hm
  rw [List.getElem?_eq_getElem (Nat.lt_trans hm lt)] at e
  have e2 := Option.some.inj e
  have e3 : (ss[m] == x) = true := beq_iff_eq.mpr e2
  rw [this] at e3
  cases e3
theorem TupE.ts {K : PySem.W.Frag} {H : Hp} {c : Addr} {ss : List Str} (h : TupE K H c (ss.map V.str)) (ne : 0 < ss.length) : TupS H c ss := by
  rcases h with ⟨e, _⟩ | h
  · have := congrArg List.length e
    rw [List.length_map] at this
    rw [this] at ne
    exact absurd ne (by decide)
  · exact h
/-! texts as plain data -/
theorem strOk_nm {x : Str} (h : nmS x = true) : PyData.strOk x = true := by
  unfold nmS at h
  rw [Bool.and_eq_true, Bool.and_eq_true, decide_eq_true_eq, decide_eq_true_eq, List.all_eq_true] at h
  obtain ⟨_, _, hl⟩ := h
  unfold PyData.strOk
  rw [← Array.all_toList, List.all_eq_true]
  intro c hc
  have z := hl c hc
  unfold lowB at z
  rw [Bool.and_eq_true, decide_eq_true_eq, decide_eq_true_eq] at z
  exact decide_eq_true (by omega)
theorem layStrs : ∀ {ss : List Str}, ss.all nmS = true → PyData.canLayAll0 (ss.map PyData.str) = true
  | [], _ => rfl
  | x :: r, h => by
    rw [List.all_cons, Bool.and_eq_true] at h
    have ih := layStrs h.2
    simp only [List.map_cons, PyData.canLayAll0, PyData.canLay0, ih, strOk_nm h.1, Bool.and_self]
theorem depthStrs : ∀ ss : List Str, PyData.depthAll (ss.map PyData.str) = 0
  | [] => rfl
  | x :: r => by
    have h := depthStrs r
    simp only [List.map_cons, PyData.depthAll, PyData.depth, h, Nat.max_self]
theorem shapedStrs {ss : List Str} (h : ss.all nmS = true) : SeqAt.shaped (.tuple (ss.map PyData.str)) = true := by
  unfold SeqAt.shaped
  simp only [PyData.canLay0, layStrs h, PyData.depth, depthStrs ss]
  rfl
theorem dpStrs (K : PySem.W.Frag) (H : Hp) : ∀ ss : List Str, DpAll K H (ss.map V.str) (ss.map PyData.str)
  | [] => .nil
  | x :: r => .cons (.str x) (dpStrs K H r)
theorem eqvStrs : ∀ ss zs : List Str, PyData.eqvAll (ss.map PyData.str) (zs.map PyData.str) = decide (ss = zs)
  | [], [] => rfl
  | [], z :: s => rfl
  | x :: r, [] => rfl
  | x :: r, z :: s => by
    have h := eqvStrs r s
    show (x == z && PyData.eqvAll (r.map PyData.str) (s.map PyData.str)) = _
    rw [h]
    by_cases q : x = z
    · subst q
      rw [beq_self_eq_true, Bool.true_and]
      by_cases q2 : r = s
      · rw [decide_eq_true q2, decide_eq_true (by rw [q2])]
      · rw [decide_eq_false q2, decide_eq_false fun w => q2 (List.cons.inj w).2]
    · rw [beq_eq_false_iff_ne.mpr q, Bool.false_and, decide_eq_false fun w => q (List.cons.inj w).1]
/-! two ways to say a clash -/
def clashL (cols ks : List Str) (xs ys : List V) : Bool := decide (ks ≠ []) && ks.all fun k => sameAt xs ys (cols.idxOf k)
theorem idx_get {cols : List Str} (nd : cols.Nodup) {i : Nat} (h : i < cols.length) : cols.idxOf (cols.getD i Str.empty) = i := by
  have e : cols.getD i Str.empty = cols[i] := by
    rw [List.getD_eq_getElem?_getD, List.getElem?_eq_getElem h]
    rfl
  rw [e]
  exact nd.idxOf_getElem i h
theorem clash_ways {cols ks : List Str} (nd : cols.Nodup) (sub : ∀ k ∈ ks, k ∈ cols) (xs ys : List V) : clashL cols ks xs ys = clashB cols ks xs ys := by
  have mem : ∀ i, i ∈ places cols ks cols.length ↔ ∃ k ∈ ks, cols.idxOf k = i := by
    intro i
    unfold places
    rw [List.mem_filter, List.mem_range, List.any_eq_true]
    constructor
    · rintro ⟨h, k, hk, e⟩
      refine ⟨k, hk, ?_⟩
      rw [beq_iff_eq.mp e]
      exact idx_get nd h
    · rintro ⟨k, hk, rfl⟩
      have lt := List.idxOf_lt_length_of_mem (sub k hk)
      refine ⟨lt, k, hk, ?_⟩
      rw [List.getD_eq_getElem?_getD, List.getElem?_eq_getElem lt, List.getElem_idxOf lt]
      exact beq_self_eq_true k
  unfold clashL clashB
  have e1 : decide (ks ≠ []) = decide (0 < (places cols ks cols.length).length) := by
    refine decide_eq_decide.mpr ⟨fun h => ?_, fun h e => ?_⟩
    · cases ks with
      | nil => exact absurd rfl h
      | cons k r => exact List.length_pos_of_mem ((mem _).mpr ⟨k, List.mem_cons_self, rfl⟩)
    · obtain ⟨i, hi⟩ := List.exists_mem_of_length_pos h
      obtain ⟨k, hk, _⟩ := (mem i).mp hi
      rw [e] at hk
      cases hk
  rw [e1]
  congr 1
  rw [Bool.eq_iff_iff, List.all_eq_true, List.all_eq_true]
  constructor
  · intro h i hi
    obtain ⟨k, hk, e⟩ := (mem i).mp hi
    rw [← e]
    exact h k hk
  · intro h k hk
    exact h _ ((mem _).mpr ⟨k, hk, rfl⟩)
def rIdx (K : PySem.W.Frag) : V → List V → Hp → VK → Prop := fun x xs H Q => ∃ p, ∃ ys : List Str, ∃ z j, x = .ref p ∧ xs = [.str z] ∧ SqT K H p (ys.map V.str) ∧ ys[j]? = some z ∧ (∀ m, m < j → ys[m]? ≠ some z) ∧ Q (.int (j : Nat)) H
/-- a table's arguments that are right -/
structure Good (nm : Str) (ss zs ks : List Str) : Prop where
  n1 : nmS nm = true
  n2 : ss.all nmS = true
  n3 : zs.all nmS = true
  n4 : ks.all nmS = true
  l2 : ss.length ≤ 2
  l3 : zs.length ≤ 2
  l4 : ks.length ≤ 4
  ne : 0 < (ss ++ zs).length
  nd : (ss ++ zs).Nodup
  sub : ∀ k ∈ ks, k ∈ ss ++ zs
theorem DPs.set {K : PySem.W.Frag} {H : Hp} {P : Addr → Prop} {n : Nat} {v : V} {t : Tr} (d : DP K H P v t n) : ∀ {vs : List V} {ts : List Tr} (j : Nat), DPs K H P vs ts n → DPs K H P (vs.set j v) (ts.set j t) n
  | _, _, _, ⟨_, .nil, _⟩ => .nil
  | _ :: _, _ :: _, 0, ⟨_, .cons (bs := bs) (cs := cs) h r, p⟩ => .cons d ⟨cs, r, fun b hb => p b (List.mem_append_right _ hb)⟩
  | _ :: _, _ :: _, j + 1, ⟨_, .cons (bs := bs) (cs := cs) h r, p⟩ => .cons ⟨bs, h, fun b hb => p b (List.mem_append_left _ hb)⟩ (DPs.set d j ⟨cs, r, fun b hb => p b (List.mem_append_right _ hb)⟩)
theorem four {α : Type} : ∀ {xs : List α}, xs.length = 4 → ∃ a b c d, xs = [a, b, c, d]
  | [a, b, c, d], _ => ⟨a, b, c, d, rfl⟩
theorem ixN4 {j : Nat} (h : j < 4) : ixN 4 (j : Int) = some j := by
  unfold ixN
  rw [if_pos (by omega), if_pos (by omega)]
  simp
/-- the defs that are called -/
structure Calls (K : PySem.W.Frag) (mg : Str → Option Value) (x : Str) (f : Addr) : Prop where
  g : mg x = some (.ref f)
  k : PySem.W.keepIn K (.ref f) = true
end Vm
/-! rows: tuples of names and integers that were made here; in, ==, sorted, remove -/
namespace Vm
open PySem PySem.Spec PyProof.Rows L2
inductive Cell where
  | s (x : Str)
  | i (n : Int)
deriving DecidableEq
abbrev Row := List Cell
def Cell.v : Cell → V
  | .s x => .str x
  | .i n => .int n
def Cell.t : Cell → Tr
  | .s x => .str x
  | .i n => .int n
def Cell.d : Cell → PyData
  | .s x => .str x
  | .i n => .int n
def Cell.isS : Cell → Bool
  | .s _ => true
  | .i _ => false
def Cell.tok : Cell → Int ⊕ List Nat
  | .s x => .inr x.cps.toList
  | .i n => .inl n
def rowT (r : Row) : Tr := .tup (r.map Cell.t)
def rowD (r : Row) : PyData := .tuple (r.map Cell.d)
def RwAt (H : Hp) (v : V) (r : Row) : Prop := ∃ (p : Addr) (o : Obj), v = .ref p ∧ H p = some (.frz o (.tup (r.map Cell.v))) ∧ o.dict = none
abbrev RowsAt (H : Hp) : List V → List Row → Prop := PySem.W.EachIs (RwAt H)
/-- tuples that were made here stay -/
def Fz (H H' : Hp) : Prop := ∀ b o xs, H b = some (.frz o (.tup xs)) → H' b = some (.frz o (.tup xs))
theorem Fz.of_same {H H' : Hp} (k : Same H H') : Fz H H' := fun _ _ _ e => k _ _ e
theorem Fz.trans {H H1 H2 : Hp} (a : Fz H H1) (b : Fz H1 H2) : Fz H H2 := fun _ _ _ e => b _ _ _ (a _ _ _ e)
theorem Fz.refl (H : Hp) : Fz H H := fun _ _ _ e => e
theorem RwAt.keep {H H' : Hp} {v : V} {r : Row} (k : Fz H H') (h : RwAt H v r) : RwAt H' v r := let ⟨p, o, e, h, d⟩ := h; ⟨p, o, e, k _ _ _ h, d⟩
theorem RowsAt.keep {H H' : Hp} {vs : List V} {rs : List Row} (k : Fz H H') (h : RowsAt H vs rs) : RowsAt H' vs rs := h.mono fun _ _ => RwAt.keep k
theorem But.fz {s l : Addr} {H H' : Hp} {ms : List Int} {z b : Int} (k : But s l H H') (hs : Src H s l ms z b) : Fz H H' := fun c o xs e => k _ _ (fun q => by
  rw [q, hs.hs] at e
  cases e) (fun q => by
  rw [q, hs.hl] at e
  cases e) e
/-! lists that go together -/
section
variable {α β : Type} {R : α → β → Prop}
theorem each_append : ∀ {a c : List α} {b d : List β}, PySem.W.EachIs R a b → PySem.W.EachIs R c d → PySem.W.EachIs R (a ++ c) (b ++ d)
  | _, _, _, _, .nil, h => h
  | _, _, _, _, .cons h r, q => .cons h (each_append r q)
theorem each_get : ∀ {a : List α} {b : List β}, PySem.W.EachIs R a b → ∀ {i : Nat} {x : α}, a[i]? = some x → ∃ y, b[i]? = some y ∧ R x y
  | _, _, .nil, _, _, e => nomatch e
  | _, _, .cons h r, 0, _, e => ⟨_, rfl, Option.some.inj e ▸ h⟩
  | _, _, .cons h r, i + 1, _, e => each_get r (i := i) e
theorem each_get' : ∀ {a : List α} {b : List β}, PySem.W.EachIs R a b → ∀ {i : Nat} {y : β}, b[i]? = some y → ∃ x, a[i]? = some x ∧ R x y
  | _, _, .nil, _, _, e => nomatch e
  | _, _, .cons h r, 0, _, e => ⟨_, rfl, Option.some.inj e ▸ h⟩
  | _, _, .cons h r, i + 1, _, e => each_get' r (i := i) e
theorem each_erase : ∀ {a : List α} {b : List β}, PySem.W.EachIs R a b → ∀ i, PySem.W.EachIs R (a.eraseIdx i) (b.eraseIdx i)
  | _, _, .nil, _ => .nil
  | _, _, .cons h r, 0 => r
  | _, _, .cons h r, i + 1 => .cons h (each_erase r i)
theorem each_set : ∀ {a : List α} {b : List β}, PySem.W.EachIs R a b → ∀ i {x y}, R x y → PySem.W.EachIs R (a.set i x) (b.set i y)
  | _, _, .nil, _, _, _, _ => .nil
  | _, _, .cons h r, 0, _, _, q => .cons q r
  | _, _, .cons h r, i + 1, _, _, q => .cons h (each_set r i q)
end
section
variable {K : PySem.W.Frag} {H : Hp}
theorem cellsDp : ∀ r : Row, DpAll K H (r.map Cell.v) (r.map Cell.d)
  | [] => .nil
  | .s x :: r => .cons (.str x) (cellsDp r)
  | .i n :: r => .cons (.int n) (cellsDp r)
theorem RwAt.dp {v : V} {r : Row} (h : RwAt H v r) : Dp K H v (rowD r) := by
  obtain ⟨p, o, rfl, h, _⟩ := h
  exact .tup (.inl (.inr ⟨o, h⟩)) (cellsDp r)
theorem rows_dp : ∀ {vs : List V} {rs : List Row}, RowsAt H vs rs → DpAll K H vs (rs.map rowD)
  | _, _, .nil => .nil
  | _, _, .cons h r => .cons h.dp (rows_dp r)
end
theorem cells_plain : ∀ r : Row, PyData.plainAll (r.map Cell.d) = true
  | [] => rfl
  | .s x :: r => by
    show (true && PyData.plainAll (r.map Cell.d)) = true
    rw [cells_plain r]
    rfl
  | .i x :: r => by
    show (true && PyData.plainAll (r.map Cell.d)) = true
    rw [cells_plain r]
    rfl
theorem row_plain (r : Row) : (rowD r).plain = true := cells_plain r
theorem rows_plain : ∀ rs : List Row, PyData.plainAll (rs.map rowD) = true
  | [] => rfl
  | r :: rs => by
    show ((rowD r).plain && PyData.plainAll (rs.map rowD)) = true
    rw [row_plain, rows_plain rs]
    rfl
theorem cells_depth : ∀ r : Row, PyData.depthAll (r.map Cell.d) = 0
  | [] => rfl
  | .s x :: r => by
    show max 0 (PyData.depthAll (r.map Cell.d)) = 0
    rw [cells_depth r]
    rfl
  | .i x :: r => by
    show max 0 (PyData.depthAll (r.map Cell.d)) = 0
    rw [cells_depth r]
    rfl
theorem row_depth (r : Row) : (rowD r).depth = 1 := by
  unfold rowD
  simp only [PyData.depth, cells_depth r]
theorem cells_eqv : ∀ r q : Row, PyData.eqvAll (r.map Cell.d) (q.map Cell.d) = decide (r = q)
  | [], [] => rfl
  | [], _ :: _ => rfl
  | _ :: _, [] => rfl
  | a :: r, b :: q => by
    show (PyData.eqv a.d b.d && PyData.eqvAll (r.map Cell.d) (q.map Cell.d)) = _
    rw [cells_eqv r q]
    have e : PyData.eqv a.d b.d = decide (a = b) := by
      cases a with
      | s x =>
        cases b with
        | s y =>
          show (x == y) = _
          by_cases h : x = y
          · subst h
            rw [beq_self_eq_true, decide_eq_true rfl]
          · rw [beq_eq_false_iff_ne.mpr h, decide_eq_false fun q => h (Cell.s.inj q)]
        | i m => 
          rw [decide_eq_false (fun q => nomatch q)]
          rfl
      | i n =>
        cases b with
        | s y => 
          rw [decide_eq_false (fun q => nomatch q)]
          rfl
        | i m =>
          show (n == m) = _
          by_cases h : n = m
          · subst h
            rw [beq_self_eq_true, decide_eq_true rfl]
          · rw [beq_eq_false_iff_ne.mpr h, decide_eq_false fun q => h (Cell.i.inj q)]
    rw [e]
    by_cases h : a = b
    · subst h
      rw [decide_eq_true rfl, Bool.true_and]
      exact decide_eq_decide.mpr ⟨fun e => by rw [e], fun e => (List.cons.inj e).2⟩
    · rw [decide_eq_false h, Bool.false_and, decide_eq_false fun e => h (List.cons.inj e).1]
theorem row_eqv (r q : Row) : PyData.eqv (rowD r) (rowD q) = decide (r = q) := cells_eqv r q
theorem rows_eqv : ∀ rs qs : List Row, PyData.eqvAll (rs.map rowD) (qs.map rowD) = decide (rs = qs)
  | [], [] => rfl
  | [], _ :: _ => rfl
  | _ :: _, [] => rfl
  | a :: r, b :: q => by
    show (PyData.eqv (rowD a) (rowD b) && PyData.eqvAll (r.map rowD) (q.map rowD)) = _
    rw [rows_eqv r q, row_eqv]
    by_cases h : a = b
    · subst h
      rw [decide_eq_true rfl, Bool.true_and]
      exact decide_eq_decide.mpr ⟨fun e => by rw [e], fun e => (List.cons.inj e).2⟩
    · rw [decide_eq_false h, Bool.false_and, decide_eq_false fun e => h (List.cons.inj e).1]
theorem rows_any (r : Row) : ∀ rs : List Row, ((rs.map rowD).any fun z => PyData.eqv z (rowD r)) = decide (r ∈ rs)
  | [] => rfl
  | q :: rs => by
    rw [List.map_cons, List.any_cons, rows_any r rs, row_eqv]
    by_cases h : q = r
    · subst h
      rw [decide_eq_true rfl, Bool.true_or, decide_eq_true List.mem_cons_self]
    · rw [decide_eq_false h, Bool.false_or]
      exact decide_eq_decide.mpr ⟨List.mem_cons_of_mem _, fun m => (List.mem_cons.mp m).resolve_left fun e => h e.symm⟩
section
variable {X : Cx}
/-- row in rows: a tuple of rows or a list of rows -/
def rInR (K : PySem.W.Frag) (neg : Bool) : R2 := fun x y H Q => ∃ (r : Row) (q : Addr) (vs : List V) (rs : List Row), RwAt H x r ∧ y = .ref q ∧ (SqT K H q vs ∨ SqL K H q vs) ∧ RowsAt H vs rs ∧ Q (.bl (if neg then !decide (r ∈ rs) else decide (r ∈ rs))) H
theorem op_inR (hu : X.A.units + 8 < cLine) : OpR X (compareOp .In) (rInR X.K false) := by
  intro pins s σ H x y v u Q I rx ry h
  obtain ⟨r, q, vs, rs, hr, rfl, hq, hrs, k⟩ := h
  obtain ⟨as, r1⟩ := Dp.reads I (rowD r) x v hr.dp rx
  have hd := row_depth r
  have room : X.A.units + 1 + min (PyData.depthAll (rs.map rowD)) (rowD r).depth < cLine := by omega
  rcases hq with hq | hq
  · obtain ⟨bs, r2⟩ := Dp.reads I (.tuple (rs.map rowD)) _ u (.tup hq (rows_dp hrs)) ry
    refine SeqAt.in_tuple_data r2 r1 (rows_plain rs) (row_plain r) room ⟨.bl _, H, I, rfl, ?_⟩
    rw [rows_any]
    exact k
  · obtain ⟨bs, r2⟩ := Dp.reads I (.list (rs.map rowD)) _ u (.lst hq (rows_dp hrs)) ry
    refine SeqAt.in_list_data r2 r1 (rows_plain rs) (row_plain r) room ⟨.bl _, H, I, rfl, ?_⟩
    rw [rows_any]
    exact k
theorem op_notInR (hu : X.A.units + 8 < cLine) : OpR X (compareOp .NotIn) (rInR X.K true) := by
  intro pins s σ H x y v u Q I rx ry h
  obtain ⟨r, q, vs, rs, hr, rfl, hq, hrs, k⟩ := h
  obtain ⟨as, r1⟩ := Dp.reads I (rowD r) x v hr.dp rx
  have hd := row_depth r
  have room : X.A.units + 1 + min (PyData.depthAll (rs.map rowD)) (rowD r).depth < cLine := by omega
  rcases hq with hq | hq
  · obtain ⟨bs, r2⟩ := Dp.reads I (.tuple (rs.map rowD)) _ u (.tup hq (rows_dp hrs)) ry
    refine SeqAt.notIn_tuple_data r2 r1 (rows_plain rs) (row_plain r) room ⟨.bl _, H, I, rfl, ?_⟩
    rw [rows_any]
    exact k
  · obtain ⟨bs, r2⟩ := Dp.reads I (.list (rs.map rowD)) _ u (.lst hq (rows_dp hrs)) ry
    refine SeqAt.notIn_list_data r2 r1 (rows_plain rs) (row_plain r) room ⟨.bl _, H, I, rfl, ?_⟩
    rw [rows_any]
    exact k
/-- data without dicts: ==, != -/
def rEqP (K : PySem.W.Frag) (neg : Bool) : R2 := fun x y H Q => ∃ (d e : PyData), Dp K H x d ∧ Dp K H y e ∧ d.plain = true ∧ e.plain = true ∧ d.depth ≤ 6 ∧ Q (.bl (if neg then !PyData.eqv d e else PyData.eqv d e)) H
theorem op_eqP (hu : X.A.units + 8 < cLine) : OpR X (compareOp .Eq) (rEqP X.K false) := by
  intro pins s σ H x y v u Q I rx ry h
  obtain ⟨d, e, hd, he, p1, p2, dd, k⟩ := h
  obtain ⟨as, r1⟩ := Dp.reads I d x v hd rx
  obtain ⟨bs, r2⟩ := Dp.reads I e y u he ry
  exact SeqAt.eq_plain r1 r2 p1 p2 (by omega) ⟨.bl _, H, I, rfl, k⟩
theorem op_neP (hu : X.A.units + 8 < cLine) : OpR X (compareOp .NotEq) (rEqP X.K true) := by
  intro pins s σ H x y v u Q I rx ry h
  obtain ⟨d, e, hd, he, p1, p2, dd, k⟩ := h
  obtain ⟨as, r1⟩ := Dp.reads I d x v hd rx
  obtain ⟨bs, r2⟩ := Dp.reads I e y u he ry
  exact SeqAt.ne_plain r1 r2 p1 p2 (by omega) ⟨.bl _, H, I, rfl, k⟩
end
/-! the order of rows -/
def rowK (r : Row) : List (Int ⊕ List Nat) := PySem.W.keyToks (rowD r)
def leR : Row → Row → Bool := PySem.W.sortLe (listOrd itemOrd) false rowK
def sortR (rs : List Row) : List Row := rs.mergeSort leR
theorem sortR_perm (rs : List Row) : (sortR rs).Perm rs := List.mergeSort_perm _ _
def shp (r : Row) : List Bool := r.map Cell.isS
theorem cells_alike : ∀ {r q : Row}, shp r = shp q → PySem.W.alikeAll (r.map Cell.d) (q.map Cell.d) = true
  | [], [], _ => rfl
  | [], _ :: _, e => nomatch e
  | _ :: _, [], e => nomatch e
  | a :: r, b :: q, e => by
    have e2 : a.isS = b.isS ∧ shp r = shp q := List.cons.inj e
    have ih := cells_alike e2.2
    show (PySem.W.alike a.d b.d && PySem.W.alikeAll (r.map Cell.d) (q.map Cell.d)) = true
    rw [ih, Bool.and_true]
    cases a <;> cases b <;> first | rfl | exact nomatch e2.1
theorem row_alike {r q : Row} (e : shp r = shp q) : PySem.W.alike (rowD r) (rowD q) = true := by
  show PySem.W.alikeAll (r.map Cell.d) (q.map Cell.d) = true
  exact cells_alike e
theorem str_cps {x y : Str} (h : x.cps.toList = y.cps.toList) : x = y := PySem.W.str_of_cps h
theorem cells_toks : ∀ {r q : Row}, PySem.W.keyToksAll (r.map Cell.d) = PySem.W.keyToksAll (q.map Cell.d) → r = q
  | [], [], _ => rfl
  | [], _ :: _, e => by
    rw [List.map_nil, List.map_cons, PySem.W.keyToksAll, PySem.W.keyToksAll] at e
    exact absurd (Sum.inl.inj (List.cons.inj e).1) (by decide)
  | _ :: _, [], e => by
    rw [List.map_nil, List.map_cons, PySem.W.keyToksAll, PySem.W.keyToksAll] at e
    exact absurd (Sum.inl.inj (List.cons.inj e).1) (by decide)
  | a :: r, b :: q, e => by
    rw [List.map_cons, List.map_cons, PySem.W.keyToksAll, PySem.W.keyToksAll] at e
    have e1 := (List.cons.inj e).2
    have key : ∀ c : Cell, PySem.W.keyToks c.d = [c.tok] := fun c => by cases c <;> rfl
    rw [key, key] at e1
    obtain ⟨e2, e3⟩ := List.cons.inj e1
    have e4 := cells_toks e3
    have e5 : a = b := by
      cases a with
      | s x =>
        cases b with
        | s y => rw [str_cps (Sum.inr.inj e2)]
        | i m => exact nomatch e2
      | i n =>
        cases b with
        | s y => exact nomatch e2
        | i m => rw [Sum.inl.inj e2]
    rw [e4, e5]
theorem rowK_inj {r q : Row} (e : rowK r = rowK q) : r = q := cells_toks e
theorem leR_anti {r q : Row} (a : leR r q = true) (b : leR q r = true) : r = q := by
  refine rowK_inj ((listOrd itemOrd).total _ _ ?_ ?_)
  · have b' : (!(listOrd itemOrd).blt (rowK r) (rowK q)) = true := b
    simpa using b'
  · have a' : (!(listOrd itemOrd).blt (rowK q) (rowK r)) = true := a
    simpa using a'
theorem leR_total : PySem.W.TotalLe leR := PySem.W.sortLe_total _ _ _
/-- the sorted rows of two lists with the same rows -/
theorem sortR_eq {rs qs : List Row} (h : rs.Perm qs) : sortR rs = sortR qs := by
  have p : (sortR rs).Perm (sortR qs) := (sortR_perm rs).trans (h.trans (sortR_perm qs).symm)
  exact p.eq_of_pairwise (le := fun a b => leR a b = true) (fun a b _ _ h1 h2 => leR_anti h1 h2) (PySem.W.sort_pairwise leR_total rs) (PySem.W.sort_pairwise leR_total qs)
section
variable {X : Cx}
theorem vals_rows {pins : List (Addr × Obj)} {σ : L2.St} {H : Hp} {s : Shared} (I : Inv X pins σ H s) : ∀ {vs : List V} {us : List Value} {rs : List Row}, Vals vs us → RowsAt H vs rs → PySem.W.EachIs (fun u r => (∃ p, u = Value.ref p ∧ RwAt H (.ref p) r) ∧ ∃ as, PySem.Reads s.heap u (rowD r) as) us rs
  | _, _, _, .nil, .nil => .nil
  | _, _, _, .cons r rt, .cons h t => by
    obtain ⟨as, rd⟩ := Dp.reads I (rowD _) _ _ (h.dp (K := X.K)) r
    obtain ⟨p, o, rfl, h2, h3⟩ := h
    cases r
    exact .cons ⟨⟨p, rfl, p, o, rfl, h2, h3⟩, as, rd⟩ (vals_rows I rt t)
theorem rows_vals {H : Hp} : ∀ {us : List Value} {rs : List Row}, PySem.W.EachIs (fun u r => ∃ p, u = Value.ref p ∧ RwAt H (.ref p) r) us rs → ∃ vs, Vals vs us ∧ RowsAt H vs rs
  | _, _, .nil => ⟨[], .nil, .nil⟩
  | _, _, .cons ⟨p, e, h⟩ t => by
    subst e
    obtain ⟨vs, a, b⟩ := rows_vals t
    exact ⟨.ref p :: vs, .cons rfl a, .cons h b⟩
/-- sorted(rows) -/
def rSortR (K : PySem.W.Frag) : List V → Hp → VK → Prop := fun xs H Q => ∃ (p : Addr) (vs : List V) (rs : List Row) (c : Bool) (cs : List Bool), xs = [.ref p] ∧ SqL K H p vs ∧ RowsAt H vs rs ∧ (∀ r ∈ rs, shp r = c :: cs) ∧
  ∀ (q : Addr) (vs' : List V), H q = none → RowsAt H vs' (sortR rs) → Q (.ref q) (upd H q (.lst vs'))
theorem call_sortedR (hu : X.A.units + 8 < cLine) : CallR X (.builtin "sorted") (rSortR X.K) := by
  intro pins s σ H vs us Q I r h
  obtain ⟨p, xs, rs, c, cs, rfl, hp, hrs, hsh, k⟩ := h
  obtain ⟨its, rv, hl, hz⟩ := I.list hp
  rw [Vals.ref1 r]
  have ev := vals_rows I rv hrs
  have lit : its.length ≤ sizeLine := by
    rw [← rv.length]
    exact hz
  generalize hh : PySem.W.sortingHeap (PySem.W.copyHeap s.heap its) (s.heap.objs.size + 1) its = hS
  have old : ∀ b o, s.heap.get? b = some o → hS.get? b = some o := fun b o e => by
    rw [← hh]
    exact PySem.W.sorting_copy_old e
  have ev2 : PySem.W.EachIs (fun u (d : PyData) => ∃ as, PySem.Reads hS u d as) its (rs.map rowD) := by
    have m : ∀ {us : List Value} {qs : List Row}, PySem.W.EachIs (fun u r => (∃ p, u = Value.ref p ∧ RwAt H (.ref p) r) ∧ ∃ as, PySem.Reads s.heap u (rowD r) as) us qs → PySem.W.EachIs (fun u (d : PyData) => ∃ as, PySem.Reads hS u d as) us (qs.map rowD) := by
      intro us qs z
      induction z with
      | nil => exact .nil
      | cons a _ ih =>
        obtain ⟨_, as, rd⟩ := a
        exact .cons ⟨as, PySem.W.reads_keeps old rd⟩ ih
    exact m ev
  have al : PySem.W.AllAlike (rs.map rowD) := by
    intro d hd d' hd'
    obtain ⟨a, ha, rfl⟩ := List.mem_map.mp hd
    obtain ⟨b, hb, rfl⟩ := List.mem_map.mp hd'
    exact row_alike ((hsh a ha).trans (hsh b hb).symm)
  have so : PySem.W.Sortable (rs.map rowD) := .inl fun d hd => by
    obtain ⟨a, ha, rfl⟩ := List.mem_map.mp hd
    have e := hsh a ha
    cases a with
    | nil => exact nomatch e
    | cons x t => exact ⟨x.d, t.map Cell.d, rfl⟩
  have S : PySem.W.SortsAt X.prog X.w X.A.in1.in1 { s with heap := hS } (PySem.W.dataKind hS (rs.map rowD)) its := PySem.W.SortsAt.data (s := { s with heap := hS }) ev2 al so fun d hd => by
    obtain ⟨a, ha, rfl⟩ := List.mem_map.mp hd
    rw [row_depth]
    show X.A.units + 1 + 1 + 1 < cLine
    omega
  refine PySem.W.sorted_vals (κ := PySem.W.dataKind hS (rs.map rowD)) hl.isList (by rw [hh]; exact S) lit ?_
  have hk : PySem.W.EachIs (fun v r => (PySem.W.dataKind hS (rs.map rowD)).keyOf v = some (rowK r)) its rs := by
    have m : ∀ {us : List Value} {qs : List Row}, (∀ r ∈ qs, r ∈ rs) → PySem.W.EachIs (fun u r => (∃ p, u = Value.ref p ∧ RwAt H (.ref p) r) ∧ ∃ as, PySem.Reads s.heap u (rowD r) as) us qs → PySem.W.EachIs (fun v r => (PySem.W.dataKind hS (rs.map rowD)).keyOf v = some (rowK r)) us qs := by
      intro us qs sub z
      induction z with
      | nil => exact .nil
      | cons a _ ih =>
        obtain ⟨_, as, rd⟩ := a
        exact .cons (PySem.W.dataKind_some al (List.mem_map.mpr ⟨_, sub _ List.mem_cons_self, rfl⟩) (PySem.W.reads_keeps old rd)) (ih fun r hr => sub r (List.mem_cons_of_mem _ hr))
    exact m (fun _ h => h) ev
  have out := PySem.W.sortVals_each (κ := PySem.W.dataKind hS (rs.map rowD)) (rev := false) (R := fun u r => ∃ p, u = Value.ref p ∧ RwAt H (.ref p) r) rowK (ev.mono fun _ _ z => z.1) hk
  obtain ⟨vs', v1, v2⟩ := rows_vals out
  have hlen : (PySem.W.sortVals (PySem.W.dataKind hS (rs.map rowD)) false its its).length = its.length := PySem.W.sortVals_length false rfl
  obtain ⟨ep, he⟩ := sortedAll_at s.heap its (PySem.W.sortVals (PySem.W.dataKind hS (rs.map rowD)) false its its).toArray
  have lv : vs'.length ≤ sizeLine := by
    rw [v1.length, hlen]
    exact lit
  exact ⟨.ref _, upd H (s.heap.objs.size + 1) (.lst vs'), I.laid (t' := s.toks) (fun _ _ => sortedAll_old) (Nat.le_succ _) ⟨lv, _, ep, v1, he⟩, rfl, k _ _ (I.hok.fresh (Nat.le_succ _)) v2⟩
/-- rows.remove(row), a row that is there -/
def rRemR (K : PySem.W.Frag) : V → List V → Hp → VK → Prop := fun x xs H Q => ∃ (l : Addr) (y : V) (r : Row) (vs : List V) (rs : List Row), x = .ref l ∧ xs = [y] ∧ H l = some (.lst vs) ∧ RwAt H y r ∧ RowsAt H vs rs ∧ r ∈ rs ∧
  ∀ vs', RowsAt H vs' (rs.erase r) → vs'.length ≤ vs.length → Q .non (upd H l (.lst vs'))
theorem mt_removeR (hu : X.A.units + 8 < cLine) : MtR X "list.remove" (rRemR X.K) := by
  intro pins s σ H x xs v us Q I rx rxs h
  obtain ⟨l, y, r, vs, rs, rfl, rfl, hl, hy, hrs, mem, k⟩ := h
  cases rx
  cases rxs with
  | cons ry rt =>
    rename_i uy ut
    cases rt
    obtain ⟨z, its, n, rv, el, e0⟩ := I.lstM hl
    obtain ⟨as, rd⟩ := Dp.reads I (rowD r) y uy (hy.dp (K := X.K)) ry
    obtain ⟨bs, rds⟩ := Dp.readsAll I (rs.map rowD) vs its (rows_dp (K := X.K) hrs) rv
    have hd := row_depth r
    have lt := List.idxOf_lt_length_of_mem mem
    have place : SeqAt.dataPlace (rs.map rowD) (rowD r) = some (rs.idxOf r) := by
      unfold SeqAt.dataPlace
      rw [List.findIdx?_map]
      have e : ((fun y => PyData.eqv y (rowD r)) ∘ rowD) = fun q : Row => q == r := by
        funext q
        show PyData.eqv (rowD q) (rowD r) = _
        rw [row_eqv]
        by_cases h : q = r
        · subst h
          rw [beq_self_eq_true, decide_eq_true rfl]
        · rw [beq_eq_false_iff_ne.mpr h, decide_eq_false h]
      rw [e]
      exact List.findIdx?_eq_some_of_exists ⟨r, mem, beq_self_eq_true r⟩
    have lsz : its.toArray.size ≤ sizeLine := by
      rw [List.size_toArray, ← el]
      exact z
    refine SeqAt.remove_list_data (vs := its.toArray) (xs := rs.map rowD) (j := rs.idxOf r) ⟨_, e0, rfl, n, rfl⟩ rds rd (rows_plain rs) (row_plain r) (by omega) place lsz ?_
    have r2 : Vals (vs.eraseIdx (rs.idxOf r)) (its.eraseIdx (rs.idxOf r)) := rv.eraseIdx _
    have le : (vs.eraseIdx (rs.idxOf r)).length ≤ vs.length := by
      rw [List.length_eraseIdx]
      split <;> omega
    refine ⟨.non, _, I.lset (its' := its.eraseIdx (rs.idxOf r)) hl e0 ?_ r2 (Nat.le_trans le z), rfl, k _ ?_ le⟩
    · show its.toArray.eraseIdxIfInBounds _ = (its.eraseIdx _).toArray
      rw [List.eraseIdxIfInBounds_toArray]
    · rw [List.erase_eq_eraseIdx_of_idxOf rfl]
      exact each_erase hrs _
end
end Vm
/-! a, b, *r = t -/
namespace Vm
open PySem PySem.Spec PySem.Calls PyProof.Rows PySem.W L2
section
variable {prog : Program} {w : World} {A : Around} {E : Value → Shared → Prop} {s : Shared}
theorem unpackLast {l : Addr} {items : Array Value} {i : Nat} {Q : List Value → Shared → Prop} (hl : IsTup s.heap l items) (hh : A.handled = none) (hn : i ≤ items.size) (hz : items.size ≤ 16384)
    (h : ∀ (h' : Heap) tk, (∀ b o, s.heap.get? b = some o → h'.get? b = some o) → Q (items.toList.take i ++ [.ref h'.objs.size]) { s with heap := h'.push (seqObj "list" (items.toList.drop i).toArray 0), toks := tk }) :
    wpAny (model prog w) A (unpackItems (.ref l) (i + 1) (some i)) Q E s := by
  have hlt : l ≠ s.heap.objs.size := by obtain ⟨o, ho, _⟩ := hl; exact Nat.ne_of_lt (Heap.lt_size ho)
  have hll : l < s.heap.objs.size := by obtain ⟨o, ho, _⟩ := hl; exact Heap.lt_size ho
  unfold unpackItems
  refine wpAny_bind ?_
  unfold notIterableAtAll
  refine wpAny_bind (wpAny_specialOf hl.typeIs slot_tuple_iter.lookup ?_)
  refine wpAny_pure ?_
  simp only [Bool.false_eq_true, if_false]
  refine wpAny_bind (wpAny_holding (iter_tuple hl ?_))
  refine wpAny_bind (wpAny_holding (draw_tuple hlt i 0 _ _ ⟨_, Heap.get?_push_size _ rfl, rfl, rfl⟩ (hl.push _) (by omega) fun h₁ hit₁ hs₁ => ?_))
  have hl₁ : IsTup h₁ l items := (hl.push _).extBut hs₁.extBut hlt
  rw [Nat.zero_add] at hit₁
  have hit₁' := hit₁
  obtain ⟨oi, hoi, _⟩ := hit₁'
  have hl₁' := hl₁
  obtain ⟨ol, hol, _⟩ := hl₁'
  rw [List.drop_zero]
  have hfl : (items.toList.take i).length = i := by rw [List.length_take, Array.length_toList]; omega
  rw [if_neg (show ¬ ((items.toList.take i).length < i) by rw [hfl]; omega)]
  refine wpAny_bind (wpAny_holding (kun_collect (s := { s with heap := h₁ }) (T := "tuple_iterator") (.inr (.inr (.inr rfl))) (Walks.tuple (A := A.in1) hh s.heap.objs.size l hlt items) (fun j u st => st.1.typeIs) (k := i) (by omega) ⟨hit₁, hl₁⟩ (Heap.lt_size hoi) (Heap.lt_size hol) (fun h₂ tk hk => ?_) (by rw [sizeLine_eq]; omega)))
  have hrl : (items.toList.drop i).length = items.size - i := by rw [List.length_drop, Array.length_toList]
  have hmid : (items.toList.drop i).length - (i + 1 - 1 - i) = (items.toList.drop i).length := by omega
  show wpAny _ _ (if (items.toList.drop i).length < i + 1 - 1 - i then _ else _) _ _ _
  rw [if_neg (by omega)]
  show wpAny _ _ (newList ((items.toList.drop i).take ((items.toList.drop i).length - (i + 1 - 1 - i))) >>= fun d => pure (items.toList.take i ++ [d] ++ (items.toList.drop i).drop ((items.toList.drop i).length - (i + 1 - 1 - i)))) _ _ _
  rw [hmid, List.take_length, List.drop_length]
  have he : Heap.ExtBut s.heap.objs.size s.heap h₂ := fun b o hb e => hk b o hb (hs₁.extBut b o hb (Heap.get?_push_of_some _ e))
  have hold : ∀ b o, s.heap.get? b = some o → h₂.get? b = some o := fun b o e => he b o (Nat.ne_of_lt (Heap.lt_size e)) e
  refine wpAny_bind (wpAny_newList ?_ (by rw [hrl, sizeLine_eq]; omega))
  refine wpAny_pure ?_
  rw [List.append_nil]
  exact h h₂ tk hold
end
section
variable {X : Cx} {pos : Pos}
/-- a, b, .., *r = a tuple: n names ahead of the starred one -/
def gStar (K : PySem.W.Frag) (n : Nat) (t : TGs) : TG := fun v σ H Q => ∃ a xs, v = .ref a ∧ SqT K H a xs ∧ n ≤ xs.length ∧ xs.length ≤ 16384 ∧ ∀ D, H D = none → t (xs.take n ++ [.ref D]) σ (upd H D (.lst (xs.drop n))) Q
theorem vals_take : ∀ {xs : List V} {us : List Value} (n : Nat), Vals xs us → Vals (xs.take n) (us.take n)
  | _, _, 0, _ => .nil
  | _, _, _ + 1, .nil => .nil
  | _, _, n + 1, .cons r t => .cons r (vals_take n t)
theorem vals_drop : ∀ {xs : List V} {us : List Value} (n : Nat), Vals xs us → Vals (xs.drop n) (us.drop n)
  | _, _, 0, h => h
  | _, _, _ + 1, .nil => .nil
  | _, _, n + 1, .cons r t => vals_drop n t
theorem pgs_star {e : Expr} {p : Pos} {t : TG} (h1 : PG X e t) : PGs X [.Starred e p] (gCons t gNil) := by
  refine ⟨fun pins s σ H vs us Q I r h => ?_⟩
  obtain ⟨v, vr, e1, h⟩ := h
  subst e1
  cases r with
  | cons r rr =>
    show wpAny _ _ (assignInOrder [assign e X.env] _) _ _ _
    refine assignInOrder_cons (thn (h1.run pins s σ H _ _ _ I r h) fun _ s1 ⟨σ1, H1, I1, q1⟩ => ?_)
    obtain ⟨e2, q2⟩ := q1
    subst e2
    cases rr
    exact assignInOrder_nil ⟨σ1, H1, I1, q2⟩
theorem pg_star {es : List Expr} {k : Nat} {t : TGs} {n : Nat} (hc : X.calm = true) (h : PGs X es t)
    (hn : (assignEach es X.env).length = n + 1 := by rfl) (hst : (assignEach es X.env).findIdx? (·.1) = some n := by rfl) : PG X (.Tuple es k pos) (gStar X.K n t) := by
  refine ⟨fun pins s σ H v u Q I r hw => ?_⟩
  obtain ⟨a, xs, e1, hq, hl, hz, hw⟩ := hw
  subst e1
  cases r
  obtain ⟨its, rv, ht, _⟩ := I.tuple hq
  have lx := rv.length
  rw [assign_Tuple]
  refine wpAny_bind (wpAny_standAt ?_)
  unfold unpack
  rw [hn, hst]
  refine wpAny_bind (wpAny_holding (unpackLast ht (I.ok.hd hc) (by rw [List.size_toArray]; omega) (by rw [List.size_toArray]; omega) fun h' tk hx => ?_))
  have I1 : Inv X pins σ H { s with heap := h', toks := tk } := I.kept (t' := tk) hx
  have r2 : Vals (xs.drop n) (its.drop n) := vals_drop n rv
  have lz : (xs.drop n).length ≤ sizeLine := by
    rw [List.length_drop, sizeLine_eq]
    omega
  have I2 : Inv X pins σ (upd H h'.objs.size (.lst (xs.drop n))) { s with heap := h'.push (seqObj "list" (its.drop n).toArray 0), toks := tk } :=
    I1.laid (t' := tk) (fun b o e => Heap.get?_push_of_some _ e) (Nat.le_refl _) ⟨lz, its.drop n, 0, r2, Heap.get?_push_size _ rfl⟩
  have tv : Vals [V.ref h'.objs.size] [Value.ref h'.objs.size] := .cons rfl .nil
  have fin := h.run pins _ σ _ _ (its.take n ++ [.ref h'.objs.size]) Q I2 ((vals_take n rv).append tv) (hw _ (I1.hok.fresh (Nat.le_refl _)))
  exact fin
end
end Vm
/-! d.get(text) of a written dict; a text == any data -/
namespace Vm
open PySem PySem.Spec PyProof.Rows L2
section
variable {X : Cx} {o e : Expr} {apos cpos : Pos} {td ty : TE} {d : Addr} {es : Array DictEntry} {n : Nat}
def tKGet (K : PySem.W.Frag) (d : Addr) (td ty : TE) : TE := fun σ H Q => td σ H fun x H1 => x = .ref d ∧ ty σ H1 fun y H2 => ∃ (z : Str) (r : Option Value) (v : V), y = .str z ∧ PySem.W.nsIn K d z = some r ∧ RelV v (r.getD .none) ∧ Q v H2
theorem pe_kget (D : KDict X.K X.w d es n) (ho : PE X o td) (he : PE X e ty) (m : M1 X o "get" apos e cpos) : PE X (.Call (.Attribute o "get" apos) [e] [] cpos) (tKGet X.K d td ty) := by
  refine ⟨fun pins s σ H Q I h => ?_⟩
  refine wpAny_Call_method m.base m.few m.line PySem.F.plainAttrs_dict PySem.F.slot_dict_get PySem.F.type_dict_get (thn (ho.run pins s σ H _ I h) fun u s1 ⟨x, H1, I1, rx, ex, q1⟩ => ?_)
  subst ex
  obtain rfl : u = Value.ref d := rx
  have hm := PySem.W.mapOf_K (prog := X.prog) (w := X.w) I1.kIn D.at_ D.lit
  refine ⟨hm.typeIs, fun a e => ⟨_, I1.kIn _ _ (Value.ref.inj e ▸ D.at_), rfl⟩, ?_⟩
  rw [m.trees]
  refine Calls.callWith_builtin rfl (Calls.evalArgs_plain (Calls.spliced_cons (thn (he.run pins s1 σ H1 _ I1 q1) fun iv s2 ⟨y, H2, I2, ry, z, r, v, ey, en, rv, q2⟩ => Calls.spliced_nil ?_)))
  subst ey
  obtain ⟨t, rfl⟩ := (show ∃ t, iv = Value.str z t from ry)
  have hm2 := PySem.W.mapOf_K (prog := X.prog) (w := X.w) I2.kIn D.at_ D.lit
  refine call_meetsIn PySem.F.slot_dict_get hm2.typeIs PySem.F.entry_dict_get (PySem.F.args_dict_get_2 _ _) (meets_dict_get (PySem.strKind X.prog X.w) d (PySem.strKind_is X.prog X.w z t) D.low) ⟨_, hm2, v, H2, I2.tok _, ?_, q2⟩
  rw [PySem.W.find_K D.at_ en]
  exact rv
end
end Vm
namespace Vm
open PySem SeqAt MeetsSeq
open AutoSeq1 (wpAny_loadPart')
section
variable {A : Around} {s : Shared}
theorem rc_str_dict {l : Addr} {dd : Option Addr} {es : Array DictEntry} {n : Nat} {sl : Array (Option Value)} (b : Str) (u : Tok) (ho : s.heap.get? l = some (dob dd es n sl)) (hu : A.units < cLine) : RcAt A s (.str b u) (.ref l) false := fun prog w E Q h =>
  rc_eq_decline_or (k := false) (typeIs_str s b u) ⟨_, ho, rfl⟩ (by decide) F.sub_dict_str F.slot_str_eq F.slot_dict_eq_refl
    (fun _ q => call_meets F.slot_str_eq (typeIs_str s b u) F.entry_str_eq (F.args_str_eq_2 _ _) (str_no_dict b u l dd es n sl) ⟨ho, q⟩)
    (fun _ q => call_meets F.slot_dict_eq_refl ⟨_, ho, rfl⟩ F.entry_dict_eq (F.args_dict_eq_2 _ _) (dict_no_str l dd es n sl b u) ⟨ho, q⟩)
    (fun _ q => wpAny_of_eq (rfl : isSame (.str b u) (.ref l) = pure false) q) (.inr hu) h
theorem rc_str_dict' {l : Addr} {o : Obj} {es : Array DictEntry} {n : Nat} (b : Str) (u : Tok) (ho : s.heap.get? l = some o) (hc : o.cls = .type "dict") (hd : o.data = .dict es n) (hu : A.units < cLine) : RcAt A s (.str b u) (.ref l) false := by
  obtain ⟨c, dd, dt, sl⟩ := o
  dsimp only at hc hd
  subst hc hd
  exact rc_str_dict b u ho hu
end
open L2
/-- a text beside any data -/
theorem Dt.strRc {X : Cx} {pins : List (Addr × Obj)} {σ : St} {H : Hp} {s : Shared} {A : Around} (I : Inv X pins σ H s) {v : V} {t : Tr} {n : Nat} {bs : List Addr} {u : Value} (d : Dt X.K H v t n bs) (r : RelV v u) (x : Str) (k : Tok) (hu : A.units < cLine) : RcAt A s (.str x k) u (isS x t) := by
  cases d with
  | non =>
    cases r
    exact .str_none x k
  | bl b =>
    cases r
    exact .str_bool x k b
  | int h =>
    obtain ⟨t, rfl⟩ := r
    exact .str_int x k _ t
  | @str _ y h hz =>
    obtain ⟨t, rfl⟩ := r
    have e : isS x (.str y) = (x == y) := by
      show (y == x) = (x == y)
      exact Bool.beq_comm
    rw [e]
    exact .str_str x k y t
  | lst h rs na =>
    cases r
    obtain ⟨its, rv, pl, _⟩ := I.list (.inl (.inl h))
    exact .str_list x k pl.isList hu
  | emp h =>
    cases r
    obtain ⟨its, rv, pl, _⟩ := I.tuple (.inr h)
    exact .str_tuple x k pl hu
  | tup h nd rs na =>
    cases r
    obtain ⟨its, rv, pl, _⟩ := I.tuple (.inl (.inr ⟨_, h⟩))
    exact .str_tuple x k pl hu
  | dct h kf rs na =>
    cases r
    obtain ⟨z, hs, vs, kv, o, es, ep, e, ex, dd, _⟩ := I.hok _ _ h
    exact rc_str_dict' x k e ex.1 dd hu
section
variable {X : Cx}
/-- a text == any data -/
def rEqSD (K : PySem.W.Frag) : R2 := fun x y H Q => ∃ (z : Str) (t : Tr) (n : Nat) (bs : List Addr), x = .str z ∧ Dt K H y t n bs ∧ Q (.bl (isS z t)) H
theorem op_eqSD (hu : X.A.units < cLine) : OpR X (compareOp .Eq) (rEqSD X.K) := by
  intro pins s σ H x y v u Q I rx ry h
  obtain ⟨z, t, n, bs, rfl, d, q⟩ := h
  obtain ⟨k, rfl⟩ := rx
  exact d.strRc I ry z k hu X.prog X.w _ _ ⟨.bl _, H, I, rfl, q⟩
end
end Vm
/-! table_named, _taken_and_put, _clashes -/
namespace Vm
open PySem L2
abbrev sNamed : Stmt := top 16
abbrev sClashes : Stmt := top 27
abbrev sTaken : Stmt := top 28
/-- what a table is -/
structure Ti where
  nm : Str
  ss : List Str
  zs : List Str
  ks : List Str
def Ti.ok (t : Ti) : Prop := Good t.nm t.ss t.zs t.ks
def Ti.cols (t : Ti) : List Str := t.ss ++ t.zs
/-- a value that is this table -/
def TbAt (K : PySem.W.Frag) (H : Hp) (C : Addr) (v : V) (t : Ti) : Prop := ∃ a, v = .ref a ∧ Tb K H C a t.nm t.ss t.zs t.ks
abbrev TbsAt (K : PySem.W.Frag) (H : Hp) (C : Addr) : List V → List Ti → Prop := PySem.W.EachIs (TbAt K H C)
theorem TbAt.same {K : PySem.W.Frag} {H H' : Hp} {C : Addr} {v : V} {t : Ti} (h : TbAt K H C v t) (k : Same H H') : TbAt K H' C v t := let ⟨a, e, h⟩ := h; ⟨a, e, h.same k⟩
theorem tbs_same {K : PySem.W.Frag} {H H' : Hp} {C : Addr} {vs : List V} {ts : List Ti} (h : TbsAt K H C vs ts) (k : Same H H') : TbsAt K H' C vs ts := h.mono fun _ _ z => z.same k
/-- the first table with this name -/
def firstAt (ts : List Ti) (t : Tr) : Option Nat := ts.findIdx? fun ti => isS ti.nm t
def spNamed (K : PySem.W.Frag) (C : Addr) : Sp := fun vs H Q _ => ∃ (v : V) (t : Tr) (n : Nat) (bs : List Addr) (q : Addr) (ws : List V) (ts : List Ti), vs = [v, .ref q] ∧ Dt K H v t n bs ∧ SqT K H q ws ∧ TbsAt K H C ws ts ∧
  (∀ i w H', firstAt ts t = some i → ws[i]? = some w → Same H H' → Q w H') ∧ (firstAt ts t = none → ∀ H', Same H H' → Q .non H')
section
variable {P : Program} {w : World} {K : PySem.W.Frag} {mg : Str → Option Value} {base : Heap} {fNm fNms fCols fKey C CI : Addr}
theorem scNamed : FnScope ["name", "tables", "table"] ["name", "tables"] (defScope sNamed) := ⟨rfl, rfl, rfl, by decide +kernel, rfl, by decide +kernel, by decide +kernel⟩
theorem ok_named {f : Addr} {fd : FuncData} (F : Fun K "table_named" "table_named" sNamed f fd) (U : TxtT K mg C CI fCols fKey) : FnOk P w K mg base CX0 1 f fd ["name", "tables"] (spNamed K C) := by
  refine F.ok scNamed (fun vs H Q E h => ?_) (fun cdv A outer s H vs Q E hr h => ?_)
  · obtain ⟨v, t, n, bs, q, ws, ts, rfl, _⟩ := h
    rfl
  · obtain ⟨v, t, n, bs, q, ws, ts, rfl, d, hq, hts, k1, k2⟩ := h
    refine ⟨_, pss_cons (ps_for PassesOwn.never rfl (pi_tup (pv 1)) (pg_name (i := 2) scNamed.nd rfl (Or.inl rfl))
        (pss_one (ps_if (pt_cmpR (op_eqSD hr.units0) (pe_fld (pv 2) rfl) (pv 0) (nomark _)) (pss_one (ps_ret (pv 2))) pss_nil)))
      (pss_one (ps_ret pe_non)), ?_⟩
    refine ⟨_, rfl, q, rfl, ⟨_, hq⟩, for_tup (K := K) (a := q) (xs := ws) (fun i σ H' => ∃ (v2 : Option V), σ = [some v, some (.ref q), v2] ∧ Same H H' ∧ ∀ j, j < i → ∀ tj, ts[j]? = some tj → isS tj.nm t = false) ⟨none, rfl, Same.refl H, fun j hj => absurd hj (Nat.not_lt_zero _)⟩
        (fun i σ H' _ ⟨_, _, s', _⟩ => sameT s' hq) ?_ ?_⟩
    · rintro i y σ H2 hi ⟨v2, rfl, s2, no⟩
      obtain ⟨ti, et, a, rfl, tb⟩ := each_get hts hi
      obtain ⟨dx, a2, a3, a4, ha, _⟩ := (tb.same s2).ex
      refine ⟨_, rfl, a, C, dx, _, _, rfl, ha, U.cl, U.n1, rfl, _, rfl, _, t, n, bs, rfl, d.keep fun b _ o e => s2 b o e, ?_⟩
      refine ⟨_, rfl, ?_⟩
      cases e : isS ti.nm t with
      | true =>
        refine iteT ⟨_, rfl, k1 i _ H2 ?_ hi s2⟩
        unfold firstAt
        obtain ⟨lt, e2⟩ := List.getElem?_eq_some_iff.mp et
        refine List.findIdx?_eq_some_iff_getElem.mpr ⟨lt, by rw [e2]; exact e, fun j hj => ?_⟩
        rw [no j hj _ (List.getElem?_eq_getElem (Nat.lt_trans hj lt))]
        decide
      | false =>
        refine iteF ⟨_, rfl, s2, fun j hj tj ej => ?_⟩
        rcases Nat.lt_succ_iff_lt_or_eq.mp hj with lt | eq
        · exact no j lt tj ej
        · rw [eq, et] at ej
          cases ej
          exact e
    · rintro σ H2 ⟨v2, rfl, s2, no⟩
      refine k2 ?_ H2 s2
      unfold firstAt
      refine List.findIdx?_eq_none_iff.mpr fun x hx => ?_
      obtain ⟨j, hj, e⟩ := List.mem_iff_getElem.mp hx
      have := no j (by rw [hts.length]; exact hj) x (by rw [List.getElem?_eq_getElem hj, e])
      simpa using this
end
/-! _taken_and_put -/
def insS : Str := "insert"
def takenR {α : Type} (kd : Str) (ws : List α) : List α := if kd = insS then [] else ws.take 1
def putR {α : Type} (kd : Str) (ws : List α) : List α := if kd = insS then ws else ws.drop 1
def spTaken (K : PySem.W.Frag) : Sp := fun vs H Q _ => ∃ (p : Addr) (kd : Str) (v2 : V) (ws : List V), vs = [.ref p] ∧ SqT K H p (.str kd :: v2 :: ws) ∧ ws.length ≤ 8 ∧
  ∀ (q l1 l2 : Addr) (H' : Hp), Same H H' → SqT K H' q [.ref l1, .ref l2] → H' l1 = some (.lst (takenR kd ws)) → H' l2 = some (.lst (putR kd ws)) → H l1 = none → H l2 = none → l1 ≠ l2 → Q (.ref q) H'
section
variable {P : Program} {w : World} {K : PySem.W.Frag} {mg : Str → Option Value} {base : Heap} {fNm fNms fCols fKey C CI fCl : Addr}
theorem scTaken : FnScope ["change", "kind", "_", "rows"] ["change"] (defScope sTaken) := ⟨rfl, rfl, rfl, by decide +kernel, rfl, by decide +kernel, by decide +kernel⟩
theorem ok_taken {f : Addr} {fd : FuncData} (F : Fun K "_taken_and_put" "_taken_and_put" sTaken f fd) : FnOk P w K mg base CX0 1 f fd ["change"] (spTaken K) := by
  refine F.ok scTaken (fun vs H Q E h => ?_) (fun cdv A outer s H vs Q E hr h => ?_)
  · obtain ⟨p, kd, v2, ws, rfl, _⟩ := h
    rfl
  · obtain ⟨p, kd, v2, ws, rfl, hp, few, k⟩ := h
    refine ⟨_, pss_cons (ps_asg (pv 0) (pg_star (n := 2) rfl (pgs_cons (pg_name (i := 1) scTaken.nd rfl (Or.inl rfl)) (pgs_cons (pg_name (i := 2) scTaken.nd rfl (Or.inl rfl)) (pgs_star (pg_name (i := 3) scTaken.nd rfl (Or.inl rfl)))))))
      (pss_cons (ps_if (pt_cmpR op_eq (pv 1) pe_str (nomark _)) (pss_one (ps_ret (pe_tup (pa_cons (pe_lst pa_nil) (pa_cons (pv 3) pa_nil))))) pss_nil)
      (pss_one (ps_ret (pe_tup (pa_cons (pe_slice sl_list (pv 3) po_none (po_some pe_int)) (pa_cons (pe_slice sl_list (pv 3) (po_some pe_int) po_none) pa_nil)))))), ?_⟩
    have big : sizeLine > 1000 := by decide
    refine ⟨_, rfl, p, _, rfl, hp, by show 2 ≤ ws.length + 2; omega, by show ws.length + 2 ≤ 16384; omega, fun D hD => ?_⟩
    have sD := same_upd (o := .lst ws) hD
    have eD : upd H D (.lst ws) D = some (.lst ws) := upd_same
    refine ⟨_, _, rfl, _, _, rfl, _, _, rfl, rfl, ?_⟩
    refine ⟨_, rfl, rfl, _, rfl, ?_⟩
    refine ite2 (fun e => ?_) (fun e => ?_)
    · have e1 : kd = insS := V.str.inj (of_decide_eq_true e)
      refine ⟨by show 0 ≤ sizeLine; omega, fun l hl => ⟨_, rfl, by show 2 ≤ sizeLine; omega, fun q hq => ?_⟩⟩
      have sl := same_upd (o := .lst []) hl
      have sq := same_upd (o := .tup [.ref l, .ref D]) hq
      have lD : l ≠ D := fun z => by
        have hl' : upd H D (.lst ws) D = none := z ▸ hl
        rw [eD] at hl'
        cases hl'
      have hl0 : H l = none := sD.free hl
      have fin := k q l D _ ((sD.trans sl).trans sq) (SqT.of upd_same) ?_ ?_ hl0 hD lD
      · exact fin
      · unfold takenR
        rw [if_pos e1]
        exact sq _ _ upd_same
      · unfold putR
        rw [if_pos e1]
        exact sq _ _ (sl _ _ eD)
    · have e1 : ¬ kd = insS := fun z => e (decide_eq_true (by rw [z]; rfl))
      refine ⟨_, rfl, _, rfl, D, _, rfl, SqL.of eD, fun l hl => ⟨_, rfl, _, rfl, D, _, rfl, SqL.of (same_upd hl _ _ eD), fun l2 hl2 => ⟨by show 2 ≤ sizeLine; omega, fun q hq => ?_⟩⟩⟩
      have c1 : cutV ws none (some ((1 : Nat) : Int)) = ws.take 1 := cut_take ws 1
      have c2 : cutV ws (some ((1 : Nat) : Int)) none = ws.drop 1 := cut_drop ws 1
      have sl := same_upd (o := .lst (cutV ws none (some ((1 : Nat) : Int)))) hl
      have sl2 := same_upd (o := .lst (cutV ws (some ((1 : Nat) : Int)) none)) hl2
      have l12 : l ≠ l2 := fun z => by
        rw [← z, upd_same] at hl2
        cases hl2
      have s3 := (sD.trans sl).trans sl2
      have fin := k q l l2 _ (s3.trans (same_upd hq)) (SqT.of upd_same) ?_ ?_ (sD.free hl) ((sD.trans sl).free hl2) l12
      · exact fin
      · unfold takenR
        rw [if_neg e1, ← c1]
        exact same_upd hq _ _ (sl2 _ _ upd_same)
      · unfold putR
        rw [if_neg e1, ← c2]
        exact same_upd hq _ _ upd_same
end
/-! _clashes -/
def clashR (ti : Ti) (r o : Row) : Bool := clashB ti.cols ti.ks (r.map Cell.v) (o.map Cell.v)
/-- a row's form -/
def okC : Bool → Cell → Bool
  | true, .s x => nmS x
  | false, .i _ => true
  | _, _ => false
structure Row.ok (ti : Ti) (r : Row) : Prop where
  len : r.length = ti.ss.length + ti.zs.length
  cell : ∀ i c, r[i]? = some c → okC (decide (i < ti.ss.length)) c = true
theorem ok_scal {ti : Ti} {r o : Row} (h1 : Row.ok ti r) (h2 : Row.ok ti o) (i : Nat) (x y : V) (e1 : (r.map Cell.v)[i]? = some x) (e2 : (o.map Cell.v)[i]? = some y) : scal x y = true := by
  rw [List.getElem?_map] at e1 e2
  cases a : r[i]? with
  | none => rw [a] at e1; cases e1
  | some c =>
    cases b : o[i]? with
    | none => rw [b] at e2; cases e2
    | some d =>
      rw [a] at e1
      rw [b] at e2
      have p := h1.cell i c a
      have q := h2.cell i d b
      obtain rfl := Option.some.inj e1
      obtain rfl := Option.some.inj e2
      cases decide (i < ti.ss.length) <;> cases c <;> cases d <;> first | rfl | exact nomatch p | exact nomatch q
def spClashes (K : PySem.W.Frag) (C : Addr) : Sp := fun vs H Q _ => ∃ (a : Addr) (x : V) (q : Addr) (ti : Ti) (r : Row) (ws : List V) (rs : List Row), vs = [.ref a, x, .ref q] ∧ Tb K H C a ti.nm ti.ss ti.zs ti.ks ∧ RwAt H x r ∧ SqL K H q ws ∧ RowsAt H ws rs ∧
  Row.ok ti r ∧ (∀ o ∈ rs, Row.ok ti o) ∧ rs.length ≤ 100 ∧ ∀ H', Same H H' → Q (.bl (rs.any (clashR ti r))) H'
section
variable {P : Program} {w : World} {K : PySem.W.Frag} {mg : Str → Option Value} {base : Heap} {fNm fNms fCols fKey C CI fC : Addr}
theorem scClashes : FnScope ["table", "row", "others", "other"] ["table", "row", "others"] (defScope sClashes) := ⟨rfl, rfl, rfl, by decide +kernel, rfl, by decide +kernel, by decide +kernel⟩
theorem ok_clashes {f : Addr} {fd fdC : FuncData} (F : Fun K "_clashes" "_clashes" sClashes f fd) (U : TxtT K mg C CI fCols fKey) (any : mg "any" = none) (mC : Meth K C "clash" fC) (GC : FnOk P w K mg base CX0 3 fC fdC ["self", "one", "other"] (spClash K C)) (bC : Binds K fdC ["self", "one", "other"] []) :
    FnOk P w K mg base CX0 4 f fd ["table", "row", "others"] (spClashes K C) := by
  refine F.ok scClashes (fun vs H Q E h => ?_) (fun cdv A outer s H vs Q E hr h => ?_)
  · obtain ⟨a, x, q, ti, r, ws, rs, rfl, _⟩ := h
    rfl
  · obtain ⟨a, x, q, ti, r, ws, rs, rfl, tb, hx, hq, hrs, o1, o2, few, k⟩ := h
    refine ⟨_, pss_one (ps_ret (pe_callB (cr_any rfl) (by rfl) any (by decide +kernel) (pa_cons (pe_lc (own := [("other", 3)]) (g := gName 3) (tt := tYes) rfl scClashes.nd (pi_list (pv 2))
            (blkOk_by (N := ["table", "row", "others", "other"]) (sc := defScope sClashes) (by decide +kernel)) (fun _ _ _ _ _ => pg_name (i := 3) scClashes.nd rfl (Or.inl rfl)) (fun _ _ _ _ _ => pts_nil)
            (fun _ _ _ _ _ => pe_meth (pv 0) U.cl mC GC hr bC .nil pass0 (pa_cons (pv 1) (pa_cons (pv 3) pa_nil)))) pa_nil))), ?_⟩
    have big : sizeLine > 1000 := by decide
    obtain ⟨dx, a2, a3, a4, ha, _⟩ := tb.ex
    refine ⟨_, rfl, q, rfl, ⟨_, hq⟩, fun D hD => ?_⟩
    refine lc_list (K := K) (a := q) (xs := ws) (fun i H' => Same H H' ∧ H' D = some (.lst (((rs.take i).map (clashR ti r)).map V.bl))) ⟨same_upd hD, upd_same⟩ (fun i H' _ z => z.1.seq hq) ?_ ?_
    · rintro i y H2 hi ⟨s2, e2⟩
      refine ⟨rfl, ?_⟩
      dsimp only [tYes]
      rw [if_pos rfl]
      obtain ⟨o, eo, ho⟩ := each_get hrs hi
      have mem := List.mem_of_getElem? eo
      obtain ⟨p1, ob1, rfl, h1, d1⟩ := hx
      obtain ⟨p2, ob2, rfl, h2, d2⟩ := ho
      refine ⟨_, rfl, a, dx, _, rfl, s2 _ _ ha, rfl, _, rfl, _, rfl, a, p1, p2, ti.nm, ti.ss, ti.zs, ti.ks, r.map Cell.v, o.map Cell.v, rfl, tb.same s2, .inl (.inr ⟨_, s2 _ _ h1⟩), .inl (.inr ⟨_, s2 _ _ h2⟩), by rw [List.length_map]; exact o1.len, by rw [List.length_map]; exact (o2 o mem).len, ok_scal o1 (o2 o mem), fun H3 s3 => ?_⟩
      refine ⟨_, s3 _ _ e2, ?_, fun b u e => ?_, ?_⟩
      · rw [List.length_map, List.length_map, List.length_take]
        omega
      · rw [upd_ne (ne_of_none e hD)]
        exact s3 b u (s2 b u e)
      · rw [upd_same, List.take_add_one, eo]
        simp [clashR, Ti.cols]
    · rintro H2 ⟨s2, e2⟩
      rw [hrs.length, List.take_length] at e2
      refine ⟨D, _, rfl, SqL.of e2, ?_⟩
      rw [List.any_map]
      exact k H2 s2
end
end Vm
/-! is_possible_in, rows_after -/
namespace Vm
open PySem L2
abbrev sPossIn : Stmt := top 25
abbrev sAfter : Stmt := top 26
section
variable {α β : Type} {R : α → β → Prop}
theorem each_take : ∀ {a : List α} {b : List β} (n : Nat), PySem.W.EachIs R a b → PySem.W.EachIs R (a.take n) (b.take n)
  | _, _, 0, _ => .nil
  | _, _, _ + 1, .nil => .nil
  | _, _, n + 1, .cons h t => .cons h (each_take n t)
theorem each_drop : ∀ {a : List α} {b : List β} (n : Nat), PySem.W.EachIs R a b → PySem.W.EachIs R (a.drop n) (b.drop n)
  | _, _, 0, h => h
  | _, _, _ + 1, .nil => .nil
  | _, _, n + 1, .cons h t => each_drop n t
theorem each_taken {a : List α} {b : List β} (kd : Str) (h : PySem.W.EachIs R a b) : PySem.W.EachIs R (takenR kd a) (takenR kd b) := by
  unfold takenR
  by_cases e : kd = insS
  · rw [if_pos e, if_pos e]
    exact .nil
  · rw [if_neg e, if_neg e]
    exact each_take 1 h
theorem each_put {a : List α} {b : List β} (kd : Str) (h : PySem.W.EachIs R a b) : PySem.W.EachIs R (putR kd a) (putR kd b) := by
  unfold putR
  by_cases e : kd = insS
  · rw [if_pos e, if_pos e]
    exact h
  · rw [if_neg e, if_neg e]
    exact each_drop 1 h
end
theorem taken_sub {α : Type} {kd : Str} {ws : List α} {x : α} (h : x ∈ takenR kd ws) : x ∈ ws := by
  unfold takenR at h
  split at h
  · cases h
  · exact List.mem_of_mem_take h
theorem put_sub {α : Type} {kd : Str} {ws : List α} {x : α} (h : x ∈ putR kd ws) : x ∈ ws := by
  unfold putR at h
  split at h
  · exact h
  · exact List.mem_of_mem_drop h
theorem taken_len {α : Type} (kd : Str) (ws : List α) : (takenR kd ws).length ≤ ws.length := by
  unfold takenR
  split
  · exact Nat.zero_le _
  · rw [List.length_take]
    omega
theorem put_len {α : Type} (kd : Str) (ws : List α) : (putR kd ws).length ≤ ws.length := by
  unfold putR
  split
  · exact Nat.le_refl _
  · rw [List.length_drop]
    omega
/-- the rows that are left -/
def leftR (kd : Str) (ws rs : List Row) : List Row := rs.filter fun o => !decide (o ∈ takenR kd ws)
def possR (ti : Ti) (kd : Str) (ws rs : List Row) : Bool := (takenR kd ws).all (fun r => decide (r ∈ rs)) && !((putR kd ws).any fun r => decide (r ∈ rs) || (leftR kd ws rs).any (clashR ti r))
def afterR (kd : Str) (ws rs : List Row) : List Row := sortR (leftR kd ws rs ++ putR kd ws)
theorem filter_next {α : Type} {p : α → Bool} {l : List α} {i : Nat} {x : α} (h : l[i]? = some x) : (l.take (i + 1)).filter p = if p x = true then (l.take i).filter p ++ [x] else (l.take i).filter p := by
  rw [List.take_add_one, h, List.filter_append]
  by_cases e : p x = true
  · rw [if_pos e]
    simp [e]
  · rw [if_neg e]
    simp [e]
theorem each_filter {H : Hp} : ∀ {xs : List V} {rs : List Row} (p : Row → Bool), RowsAt H xs rs → ∃ ys, RowsAt H ys (rs.filter p)
  | _, _, _, .nil => ⟨[], .nil⟩
  | x :: _, r :: _, p, .cons h t => by
    obtain ⟨ys, q⟩ := each_filter p t
    by_cases e : p r = true
    · rw [List.filter_cons, if_pos e]
      exact ⟨_, .cons h q⟩
    · rw [List.filter_cons, if_neg e]
      exact ⟨_, q⟩
def spPossIn (K : PySem.W.Frag) (C : Addr) : Sp := fun vs H Q _ => ∃ (p a q : Addr) (kd : Str) (v2 : V) (xs ys : List V) (ws rs : List Row) (ti : Ti), vs = [.ref p, .ref a, .ref q] ∧ SqT K H p (.str kd :: v2 :: xs) ∧ RowsAt H xs ws ∧ Tb K H C a ti.nm ti.ss ti.zs ti.ks ∧ SqT K H q ys ∧ RowsAt H ys rs ∧
  (∀ r ∈ ws, Row.ok ti r) ∧ (∀ r ∈ rs, Row.ok ti r) ∧ ws.length ≤ 8 ∧ rs.length ≤ 100 ∧ ∀ H', Same H H' → Q (.bl (possR ti kd ws rs)) H'
section
variable {P : Program} {w : World} {K : PySem.W.Frag} {mg : Str → Option Value} {base : Heap} {fNm fNms fCols fKey C CI fTk fCl : Addr}
theorem scPossIn : FnScope ["change", "table", "rows", "taken", "put", "left", "row"] ["change", "table", "rows"] (defScope sPossIn) := ⟨rfl, rfl, rfl, by decide +kernel, rfl, by decide +kernel, by decide +kernel⟩
theorem ok_possin {f : Addr} {fd fdT fdC : FuncData} (F : Fun K "is_possible_in" "is_possible_in" sPossIn f fd) (any : mg "any" = none) (all : mg "all" = none)
    (cT : Calls K mg "_taken_and_put" fTk) (GT : FnOk P w K mg base CX0 1 fTk fdT ["change"] (spTaken K)) (bT : Binds K fdT ["change"] [])
    (cC : Calls K mg "_clashes" fCl) (GC : FnOk P w K mg base CX0 4 fCl fdC ["table", "row", "others"] (spClashes K C)) (bC : Binds K fdC ["table", "row", "others"] []) :
    FnOk P w K mg base CX0 5 f fd ["change", "table", "rows"] (spPossIn K C) := by
  refine F.ok scPossIn (fun vs H Q E h => ?_) (fun cdv A outer s H vs Q E hr h => ?_)
  · obtain ⟨p, a, q, kd, v2, xs, ys, ws, rs, ti, rfl, _⟩ := h
    rfl
  · obtain ⟨p, a, q, kd, v2, xs, ys, ws, rs, ti, rfl, hp, hws, tb, hq, hrs, o1, o2, l1, l2, k⟩ := h
    have hr1 : Room 1 _ := hr.mono (by decide)
    have hu : (A.deeper (PyProof.Rows.envOfC "is_possible_in" (defScope sPossIn) s.heap.objs.size f cdv)).units + 8 < cLine := by
      have := hr.units
      omega
    refine ⟨_, pss_cons (ps_asg (pe_call GT hr1 rfl cT.g cT.k bT .nil pass0 (pa_cons (pv 0) pa_nil)) (pg_tup rfl (pgs_cons (pg_name (i := 3) scPossIn.nd rfl (Or.inr rfl)) (pgs_cons (pg_name (i := 4) scPossIn.nd rfl (Or.inl rfl)) pgs_nil))))
      (pss_cons (ps_set (i := 5) scPossIn.nd rfl (Or.inr rfl) (pe_lc (own := [("row", 6)]) (g := gName 6) (tt := tTest (tOp (rInR K true) (tVar 6) (tVar 3))) (te := tVar 6) rfl scPossIn.nd (pi_tup (pv 2))
          (blkOk_by (N := ["change", "table", "rows", "taken", "put", "left", "row"]) (sc := defScope sPossIn) (by decide +kernel)) (fun _ _ _ _ _ => pg_name (i := 6) scPossIn.nd rfl (Or.inl rfl))
          (fun _ _ _ _ _ => by exact (pts_one (pt_cmpR (op_notInR hu) (pv 6) (pv 3) (by rfl)))) (fun _ _ _ _ _ => by exact (pv 6))))
      (pss_cons (ps_if (pt_not (pt_val (pe_callB (cr_all rfl) (by rfl) all (by decide +kernel) (pa_cons (pe_lc (own := [("row", 6)]) (g := gName 6) (tt := tYes) (te := tOp (rInR K false) (tVar 6) (tVar 2)) rfl scPossIn.nd (pi_list (pv 3))
          (blkOk_by (N := ["change", "table", "rows", "taken", "put", "left", "row"]) (sc := defScope sPossIn) (by decide +kernel)) (fun _ _ _ _ _ => pg_name (i := 6) scPossIn.nd rfl (Or.inl rfl)) (fun _ _ _ _ _ => pts_nil)
          (fun _ _ _ _ _ => by exact (pe_cmpR (op_inR hu) (pv 6) (pv 2) (by rfl)))) pa_nil)))) (pss_one (ps_ret pe_bl)) pss_nil)
      (pss_one (ps_ret (pe_not (pe_callB (cr_any rfl) (by rfl) any (by decide +kernel) (pa_cons (pe_lc (own := [("row", 6)]) (g := gName 6) (tt := tYes) (te := tOrV (tOp (rInR K false) (tVar 6) (tVar 2)) (tCall (spClashes K C) [] E0 (tCons (tVar 1) (tCons (tVar 6) (tCons (tVar 5) tNil))))) rfl scPossIn.nd (pi_list (pv 4))
          (blkOk_by (N := ["change", "table", "rows", "taken", "put", "left", "row"]) (sc := defScope sPossIn) (by decide +kernel)) (fun _ _ _ _ _ => pg_name (i := 6) scPossIn.nd rfl (Or.inl rfl)) (fun _ _ _ _ _ => pts_nil)
          (fun _ _ _ _ _ => by exact (pe_or (pe_cmpR (op_inR hu) (pv 6) (pv 2) (by rfl)) (pe_one (pe_call GC hr rfl cC.g cC.k bC .nil pass0 (pa_cons (pv 1) (pa_cons (pv 6) (pa_cons (pv 5) pa_nil)))))))) pa_nil))))))), ?_⟩
    have big : sizeLine > 1000 := by decide
    have lx : xs.length = ws.length := hws.length
    refine ⟨_, rfl, p, kd, v2, xs, rfl, hp, by omega, fun q1 la lb H1 s1 hq1 ea eb _ _ _ => ?_⟩
    refine ⟨q1, _, rfl, hq1, rfl, _, _, rfl, _, _, rfl, rfl, ?_⟩
    have tk := each_taken kd (RowsAt.keep (Fz.of_same s1) hws)
    have pt := each_put kd (RowsAt.keep (Fz.of_same s1) hws)
    have rs1 := RowsAt.keep (Fz.of_same s1) hrs
    have hq1 := sameT s1 hq
    have tb1 := tb.same s1
    refine ⟨_, rfl, q, rfl, ⟨_, hq1⟩, fun D hD => ?_⟩
    -- left
    refine lc_tup (K := K) (a := q) (xs := ys) (fun i H' => Same H1 H' ∧ ∃ zs, H' D = some (.lst zs) ∧ RowsAt H1 zs ((rs.take i).filter fun o => !decide (o ∈ takenR kd ws)) ∧ zs.length ≤ i) ⟨same_upd hD, [], upd_same, .nil, Nat.le_refl _⟩ (fun i H' _ z => sameT z.1 hq1) ?_ ?_
    · rintro i y H2 hi ⟨s2, zs, e2, z2, lz⟩
      refine ⟨rfl, ?_⟩
      obtain ⟨o, eo, ho⟩ := each_get rs1 hi
      have li : i < ys.length := (List.getElem?_eq_some_iff.mp hi).1
      have ly : ys.length = rs.length := hrs.length
      refine ⟨_, rfl, _, rfl, o, la, _, _, ho.keep (Fz.of_same s2), rfl, .inr (SqL.of (s2 _ _ ea)), RowsAt.keep (Fz.of_same s2) tk, _, rfl, ?_⟩
      rw [if_pos rfl]
      have st := filter_next (p := fun o => !decide (o ∈ takenR kd ws)) eo
      by_cases e : (!decide (o ∈ takenR kd ws)) = true
      · rw [e]
        refine iteT ⟨_, rfl, zs, e2, by omega, fun b u eu => ?_, zs ++ [y], upd_same, ?_, ?_⟩
        · rw [upd_ne (ne_of_none eu hD)]
          exact s2 b u eu
        · rw [st, if_pos e]
          exact each_append z2 (.cons ho .nil)
        · rw [List.length_append]
          show zs.length + 1 ≤ i + 1
          omega
      · rw [Bool.eq_false_iff.mpr e]
        refine iteF ⟨s2, zs, e2, ?_, by omega⟩
        rw [st, if_neg e]
        exact z2
    rintro H2 ⟨s2, zs, e2, z2, lz⟩
    rw [hrs.length, List.take_length] at z2
    have z2' : RowsAt H1 zs (leftR kd ws rs) := z2
    -- all
    refine ⟨_, rfl, la, rfl, ⟨_, SqL.of (s2 _ _ ea)⟩, fun D2 hD2 => ?_⟩
    refine lc_list (K := K) (a := la) (xs := takenR kd xs) (fun i H' => Same H2 H' ∧ H' D2 = some (.lst ((((takenR kd ws).take i).map fun r => decide (r ∈ rs)).map V.bl))) ⟨same_upd hD2, upd_same⟩ (fun i H' _ z => SqL.of (z.1 _ _ (s2 _ _ ea))) ?_ ?_
    · rintro i y H3 hi ⟨s3, e3⟩
      refine ⟨rfl, ?_⟩
      dsimp only [tYes]
      rw [if_pos rfl]
      obtain ⟨o, eo, ho⟩ := each_get tk hi
      have s23 := s2.trans s3
      refine ⟨_, rfl, _, rfl, o, q, _, _, ho.keep (Fz.of_same s23), rfl, .inl (sameT s23 hq1), RowsAt.keep (Fz.of_same s23) rs1, _, e3, ?_, fun b u eu => ?_, ?_⟩
      · have := taken_len kd ws
        rw [List.length_map, List.length_map, List.length_take]
        omega
      · rw [upd_ne (ne_of_none eu hD2)]
        exact s3 b u eu
      · rw [upd_same, List.take_add_one, eo]
        simp
    rintro H3 ⟨s3, e3⟩
    rw [tk.length, List.take_length] at e3
    have s23 := s2.trans s3
    have s13 := s1.trans s23
    refine ⟨D2, _, rfl, SqL.of e3, _, rfl, ?_⟩
    have al : (((takenR kd ws).map fun r => decide (r ∈ rs)).all id) = (takenR kd ws).all fun r => decide (r ∈ rs) := by
      rw [List.all_map]
      rfl
    rw [al]
    cases ha : (takenR kd ws).all fun r => decide (r ∈ rs) with
    | false =>
      refine iteT ?_
      have : possR ti kd ws rs = false := by
        unfold possR
        rw [ha, Bool.false_and]
      rw [← this]
      exact k H3 s13
    | true =>
      refine iteF ?_
      have e2' := s3 _ _ e2
      refine ⟨_, rfl, lb, rfl, ⟨_, SqL.of (s23 _ _ eb)⟩, fun D3 hD3 => ?_⟩
      refine lc_list (K := K) (a := lb) (xs := putR kd xs) (fun i H' => Same H3 H' ∧ H' D3 = some (.lst ((((putR kd ws).take i).map fun r => decide (r ∈ rs) || (leftR kd ws rs).any (clashR ti r)).map V.bl))) ⟨same_upd hD3, upd_same⟩ (fun i H' _ z => SqL.of (z.1 _ _ (s23 _ _ eb))) ?_ ?_
      · rintro i y H4 hi ⟨s4, e4⟩
        refine ⟨rfl, ?_⟩
        dsimp only [tYes]
        rw [if_pos rfl]
        obtain ⟨o, eo, ho⟩ := each_get pt hi
        have s24 := s23.trans s4
        have s14 := s13.trans s4
        have lt := (List.getElem?_eq_some_iff.mp eo).1
        have pl := put_len kd ws
        have fin : ∀ H5, Same H4 H5 → ∃ acc, H5 D3 = some (.lst acc) ∧ acc.length < sizeLine ∧ Same H3 (upd H5 D3 (.lst (acc ++ [V.bl (decide (o ∈ rs) || (leftR kd ws rs).any (clashR ti o))]))) ∧
            upd H5 D3 (.lst (acc ++ [V.bl (decide (o ∈ rs) || (leftR kd ws rs).any (clashR ti o))])) D3 = some (.lst ((((putR kd ws).take (i + 1)).map fun r => decide (r ∈ rs) || (leftR kd ws rs).any (clashR ti r)).map V.bl)) := fun H5 s5 => by
          refine ⟨_, s5 _ _ e4, ?_, fun b u eu => ?_, ?_⟩
          · rw [List.length_map, List.length_map, List.length_take]
            omega
          · rw [upd_ne (ne_of_none eu hD3)]
            exact s5 _ _ (s4 b u eu)
          · rw [upd_same, List.take_add_one, eo]
            simp
        refine ⟨_, rfl, _, rfl, o, q, _, _, ho.keep (Fz.of_same s24), rfl, .inl (sameT s24 hq1), RowsAt.keep (Fz.of_same s24) rs1, _, rfl, ?_⟩
        show if decide (o ∈ rs) = true then _ else _
        by_cases e : decide (o ∈ rs) = true
        · rw [if_pos e]
          have f := fin H4 (Same.refl H4)
          rw [e, Bool.true_or] at f
          exact f
        · rw [if_neg e]
          have ef := Bool.eq_false_iff.mpr e
          have om := put_sub (List.mem_of_getElem? eo)
          have ll : (leftR kd ws rs).length ≤ rs.length := List.length_filter_le _ _
          refine ⟨_, rfl, _, rfl, _, rfl, a, y, D, ti, o, zs, leftR kd ws rs, rfl, tb.same s14, ho.keep (Fz.of_same s24), SqL.of (s4 _ _ e2'), RowsAt.keep (Fz.of_same s24) z2', o1 o om, fun o' m => o2 o' (List.mem_filter.mp m).1, by omega, fun H5 s5 => ?_⟩
          have f := fin H5 s5
          rw [ef, Bool.false_or] at f
          exact f
      · rintro H4 ⟨s4, e4⟩
        rw [pt.length, List.take_length] at e4
        refine ⟨D3, _, rfl, SqL.of e4, _, rfl, ?_⟩
        have an : (((putR kd ws).map fun r => decide (r ∈ rs) || (leftR kd ws rs).any (clashR ti r)).any id) = (putR kd ws).any fun r => decide (r ∈ rs) || (leftR kd ws rs).any (clashR ti r) := by
          rw [List.any_map]
          rfl
        rw [an]
        have : possR ti kd ws rs = !((putR kd ws).any fun r => decide (r ∈ rs) || (leftR kd ws rs).any (clashR ti r)) := by
          unfold possR
          rw [ha, Bool.true_and]
        rw [← this]
        exact k H4 (s13.trans s4)
end
end Vm
/-! rows_after, is_change_of -/
namespace Vm
open PySem L2
abbrev sParts : Stmt := top 23
abbrev sChangeOf : Stmt := top 24
theorem okC_isS {b : Bool} {c : Cell} (h : okC b c = true) : c.isS = b := by
  cases b <;> cases c <;> first | rfl | exact nomatch h
theorem ok_shp {ti : Ti} {r : Row} (h : Row.ok ti r) : shp r = List.replicate ti.ss.length true ++ List.replicate ti.zs.length false := by
  refine List.ext_getElem? fun i => ?_
  unfold shp
  rw [List.getElem?_map]
  by_cases lt : i < r.length
  · have e := List.getElem?_eq_getElem lt
    have c := h.cell i _ e
    rw [e]
    have len := h.len
    by_cases a : i < ti.ss.length
    · rw [List.getElem?_append_left (by rw [List.length_replicate]; exact a), List.getElem?_replicate, if_pos a]
      rw [decide_eq_true a] at c
      exact congrArg some (okC_isS c)
    · rw [List.getElem?_append_right (by rw [List.length_replicate]; omega), List.getElem?_replicate, List.length_replicate, if_pos (by omega)]
      rw [decide_eq_false a] at c
      exact congrArg some (okC_isS c)
  · rw [List.getElem?_eq_none (by omega), List.getElem?_eq_none]
    · rfl
    · rw [List.length_append, List.length_replicate, List.length_replicate]
      have := h.len
      omega
theorem shp_cons {ti : Ti} (g : ti.ok) : ∃ c cs, List.replicate ti.ss.length true ++ List.replicate ti.zs.length false = c :: cs := by
  have : 0 < (List.replicate ti.ss.length true ++ List.replicate ti.zs.length false).length := by
    have := g.ne
    rw [List.length_append] at this
    rw [List.length_append, List.length_replicate, List.length_replicate]
    exact this
  cases e : List.replicate ti.ss.length true ++ List.replicate ti.zs.length false with
  | nil =>
    rw [e] at this
    exact absurd this (by decide)
  | cons c cs => exact ⟨c, cs, rfl⟩
/-- a tuple that was made here, of rows -/
def RTup (H : Hp) (q : Addr) (rs : List Row) : Prop := ∃ (o : Obj) (vs : List V), H q = some (.frz o (.tup vs)) ∧ o.dict = none ∧ RowsAt H vs rs
theorem RTup.keep {H H' : Hp} {q : Addr} {rs : List Row} (h : RTup H q rs) (k : Fz H H') : RTup H' q rs := let ⟨o, vs, e, d, r⟩ := h; ⟨o, vs, k _ _ _ e, d, r.keep k⟩
def spAfter (K : PySem.W.Frag) : Sp := fun vs H Q _ => ∃ (p q : Addr) (kd : Str) (v2 : V) (xs ys : List V) (ws rs : List Row) (ti : Ti), vs = [.ref p, .ref q] ∧ SqT K H p (.str kd :: v2 :: xs) ∧ RowsAt H xs ws ∧ SqT K H q ys ∧ RowsAt H ys rs ∧ ti.ok ∧
  (∀ r ∈ ws, Row.ok ti r) ∧ (∀ r ∈ rs, Row.ok ti r) ∧ ws.length ≤ 8 ∧ rs.length ≤ 100 ∧ ∀ H' q', Same H H' → H q' = none → RTup H' q' (afterR kd ws rs) → Q (.ref q') H'
section
variable {P : Program} {w : World} {K : PySem.W.Frag} {mg : Str → Option Value} {base : Heap} {fNm fNms fCols fKey C CI fTk fCl : Addr}
theorem scAfter : FnScope ["change", "rows", "taken", "put", "row"] ["change", "rows"] (defScope sAfter) := ⟨rfl, rfl, rfl, by decide +kernel, rfl, by decide +kernel, by decide +kernel⟩
theorem ok_after {f : Addr} {fd fdT : FuncData} (F : Fun K "rows_after" "rows_after" sAfter f fd) (tuple : mg "tuple" = none) (sorted : mg "sorted" = none)
    (cT : Calls K mg "_taken_and_put" fTk) (GT : FnOk P w K mg base CX0 1 fTk fdT ["change"] (spTaken K)) (bT : Binds K fdT ["change"] []) :
    FnOk P w K mg base CX0 2 f fd ["change", "rows"] (spAfter K) := by
  refine F.ok scAfter (fun vs H Q E h => ?_) (fun cdv A outer s H vs Q E hr h => ?_)
  · obtain ⟨p, q, kd, v2, xs, ys, ws, rs, ti, rfl, _⟩ := h
    rfl
  · obtain ⟨p, q, kd, v2, xs, ys, ws, rs, ti, rfl, hp, hws, hq, hrs, ok, o1, o2, l1, l2, k⟩ := h
    have hu : (A.deeper (PyProof.Rows.envOfC "rows_after" (defScope sAfter) s.heap.objs.size f cdv)).units + 8 < cLine := by
      have := hr.units
      omega
    refine ⟨_, pss_cons (ps_asg (pe_call GT hr rfl cT.g cT.k bT .nil pass0 (pa_cons (pv 0) pa_nil)) (pg_tup rfl (pgs_cons (pg_name (i := 2) scAfter.nd rfl (Or.inr rfl)) (pgs_cons (pg_name (i := 3) scAfter.nd rfl (Or.inl rfl)) pgs_nil))))
      (pss_one (ps_ret (pe_callTy call_tupleF (by rfl) tuple (by decide +kernel) (pa_cons (pe_callB (call_sortedR hu) (by rfl) sorted (by decide +kernel) (pa_cons (pe_op op_cat
        (pe_lc (own := [("row", 4)]) (g := gName 4) (tt := tTest (tOp (rInR K true) (tVar 4) (tVar 2))) (te := tVar 4) rfl scAfter.nd (pi_tup (pv 1))
          (blkOk_by (N := ["change", "rows", "taken", "put", "row"]) (sc := defScope sAfter) (by decide +kernel)) (fun _ _ _ _ _ => pg_name (i := 4) scAfter.nd rfl (Or.inl rfl))
          (fun _ _ _ _ _ => by exact (pts_one (pt_cmpR (op_notInR hu) (pv 4) (pv 2) (by rfl)))) (fun _ _ _ _ _ => by exact (pv 4))) (pv 3)) pa_nil)) pa_nil)))), ?_⟩
    have big : sizeLine > 1000 := by decide
    have lx : xs.length = ws.length := hws.length
    refine ⟨_, rfl, p, kd, v2, xs, rfl, hp, by omega, fun q1 la lb H1 s1 hq1 ea eb na nb _ => ?_⟩
    refine ⟨q1, _, rfl, hq1, rfl, _, _, rfl, _, _, rfl, rfl, ?_⟩
    have tk := each_taken kd (RowsAt.keep (Fz.of_same s1) hws)
    have pt := each_put kd (RowsAt.keep (Fz.of_same s1) hws)
    have rs1 := RowsAt.keep (Fz.of_same s1) hrs
    have hq1 := sameT s1 hq
    refine ⟨_, rfl, q, rfl, ⟨_, hq1⟩, fun D hD => ?_⟩
    refine lc_tup (K := K) (a := q) (xs := ys) (fun i H' => Same H1 H' ∧ ∃ zs, H' D = some (.lst zs) ∧ RowsAt H1 zs ((rs.take i).filter fun o => !decide (o ∈ takenR kd ws)) ∧ zs.length ≤ i) ⟨same_upd hD, [], upd_same, .nil, Nat.le_refl _⟩ (fun i H' _ z => sameT z.1 hq1) ?_ ?_
    · rintro i y H2 hi ⟨s2, zs, e2, z2, lz⟩
      refine ⟨rfl, ?_⟩
      obtain ⟨o, eo, ho⟩ := each_get rs1 hi
      have li : i < ys.length := (List.getElem?_eq_some_iff.mp hi).1
      have ly : ys.length = rs.length := hrs.length
      refine ⟨_, rfl, _, rfl, o, la, _, _, ho.keep (Fz.of_same s2), rfl, .inr (SqL.of (s2 _ _ ea)), RowsAt.keep (Fz.of_same s2) tk, _, rfl, ?_⟩
      rw [if_pos rfl]
      have st := filter_next (p := fun o => !decide (o ∈ takenR kd ws)) eo
      by_cases e : (!decide (o ∈ takenR kd ws)) = true
      · rw [e]
        refine iteT ⟨_, rfl, zs, e2, by omega, fun b u eu => ?_, zs ++ [y], upd_same, ?_, ?_⟩
        · rw [upd_ne (ne_of_none eu hD)]
          exact s2 b u eu
        · rw [st, if_pos e]
          exact each_append z2 (.cons ho .nil)
        · rw [List.length_append]
          show zs.length + 1 ≤ i + 1
          omega
      · rw [Bool.eq_false_iff.mpr e]
        refine iteF ⟨s2, zs, e2, ?_, by omega⟩
        rw [st, if_neg e]
        exact z2
    rintro H2 ⟨s2, zs, e2, z2, lz⟩
    rw [hrs.length, List.take_length] at z2
    have z2' : RowsAt H1 zs (leftR kd ws rs) := z2
    have ly : ys.length = rs.length := hrs.length
    have pl := put_len kd xs
    refine ⟨_, rfl, D, lb, zs, putR kd xs, rfl, rfl, e2, s2 _ _ eb, by omega, fun L hL => ?_⟩
    have s3 := same_upd (o := .lst (zs ++ putR kd xs)) hL
    have all : RowsAt (upd H2 L (.lst (zs ++ putR kd xs))) (zs ++ putR kd xs) (leftR kd ws rs ++ putR kd ws) := RowsAt.keep (Fz.of_same (s2.trans s3)) (each_append z2' pt)
    obtain ⟨c, cs, ecs⟩ := shp_cons ok
    refine ⟨L, _, _, c, cs, rfl, SqL.of upd_same, all, fun r hr' => ?_, fun q2 vs' hq2 rv => ?_⟩
    · rw [← ecs]
      rcases List.mem_append.mp hr' with m | m
      · exact ok_shp (o2 r (List.mem_filter.mp m).1)
      · exact ok_shp (o1 r (put_sub m))
    have s4 := same_upd (o := .lst vs') hq2
    refine ⟨q2, vs', rfl, SqL.of upd_same, fun q3 ob hq3 hd => ?_⟩
    have s5 := same_upd (o := .frz ob (.tup vs')) hq3
    have s35 := (s3.trans s4).trans s5
    refine k _ q3 ((s1.trans s2).trans s35) ((s1.trans s2).free ((s3.trans s4).free hq3)) ⟨ob, vs', upd_same, hd, ?_⟩
    exact RowsAt.keep (Fz.of_same (s4.trans s5)) rv
end
/-! is_change_of -/
def lenV (kd : Str) : V := if kd = insS then .int 3 else if kd = "delete" then .int 3 else if kd = "replace" then .int 4 else .non
/-- a change of one of the tables -/
def rowsOk (ts : List Ti) (nm : Tr) (rs : List Tr) : Bool := match firstAt ts nm with
  | some i => (match ts[i]? with
    | some ti => rs.all (isRow ti.ss.length ti.zs.length)
    | none => false)
  | none => false
def chgK (ts : List Ti) (nm : Tr) (rs : List Tr) : Tr → Bool
  | .str kd => decide (lenV kd = .int ((rs.length + 2 : Nat) : Int)) && rowsOk ts nm rs
  | _ => false
def chgL (ts : List Ti) : List Tr → Bool
  | k :: nm :: r :: rs => chgK ts nm (r :: rs) k
  | _ => false
def isChg (ts : List Ti) : Tr → Bool
  | .tup us => chgL ts us
  | _ => false
theorem ws_len : ∀ ts : List Tr, 2 * ts.length ≤ ws ts
  | [] => Nat.le_refl _
  | x :: r => by
    have h := ws_len r
    show 2 * (r.length + 1) ≤ (x.w + 2) + ws r
    omega
/-- the table and the rows of what looks like a change, or none -/
def spParts (K : PySem.W.Frag) (C : Addr) : Sp := fun vs H Q _ => ∃ (v : V) (t : Tr) (n : Nat) (bs : List Addr) (q : Addr) (ws : List V) (ts : List Ti), vs = [v, .ref q] ∧ Dt K H v t n bs ∧ t.w ≤ 10000 ∧ SqT K H q ws ∧ TbsAt K H C ws ts ∧
  (isChg ts t = false → ∀ H', Same H H' → Q .non H') ∧
  ∀ (H' : Hp) (p L a : Addr) (ti : Ti) (ys : List V) (us : List Tr) (m : Nat) (cs : List Addr), Same H H' → SqT K H' p [.ref a, .ref L] → H' L = some (.lst ys) → Tb K H' C a ti.nm ti.ss ti.zs ti.ks → DtAll K H ys us m cs → us.length ≤ 5000 → isChg ts t = us.all (isRow ti.ss.length ti.zs.length) → Q (.ref p) H'
section
variable {P : Program} {w : World} {K : PySem.W.Frag} {mg : Str → Option Value} {base : Heap} {fNm fNms fCols fKey C CI fTN fR dL : Addr} {es : Array DictEntry} {en : Nat}
theorem scParts : FnScope ["thing", "tables", "kind", "name", "rows", "table"] ["thing", "tables"] (defScope sParts) := ⟨rfl, rfl, rfl, by decide +kernel, rfl, by decide +kernel, by decide +kernel⟩
theorem ok_parts {f : Addr} {fd fdN : FuncData} (F : Fun K "changed_parts" "changed_parts" sParts f fd) (T : TxtP K mg fNm fNms) (U : TxtT K mg C CI fCols fKey)
    (D : KDict K w dL es en) (gL : mg "_LENGTHS" = some (.ref dL)) (lens : ∀ z, ∃ r, PySem.W.nsIn K dL z = some r ∧ RelV (lenV z) (r.getD .none))
    (cN : Calls K mg "table_named" fTN) (GN : FnOk P w K mg base CX0 1 fTN fdN ["name", "tables"] (spNamed K C)) (bN : Binds K fdN ["name", "tables"] []) :
    FnOk P w K mg base CX0 2 f fd ["thing", "tables"] (spParts K C) := by
  refine F.ok scParts (fun vs H Q E h => ?_) (fun cdv A outer s H vs Q E hr h => ?_)
  · obtain ⟨v, t, n, bs, q, ws, ts, rfl, _⟩ := h
    rfl
  · obtain ⟨v, t, n, bs, q, ws, ts, rfl, d, tw, hq, hts, k1, k2⟩ := h
    have hr1 : Room 1 _ := hr.mono (by decide)
    refine ⟨_, pss_cons (ps_if (PW.pt (pw_or (pt_not (pt_val (pe_callB call_isi (by rfl) T.isi (by decide +kernel) (pa_cons (pv 0) (pa_cons (pe_bltn (v := .ty "tuple") (by rfl) T.tuple (by decide +kernel) rfl) pa_nil)))))
          (pw_or1 (pt_cmpR op_lt (pe_callB call_len_seq (by rfl) T.len (by decide +kernel) (pa_cons (pv 0) pa_nil)) pe_int (nomark _))))) (pss_one (ps_ret pe_non)) pss_nil)
      (pss_cons (ps_asg (pv 0) (pg_star (n := 2) rfl (pgs_cons (pg_name (i := 2) scParts.nd rfl (Or.inl rfl)) (pgs_cons (pg_name (i := 3) scParts.nd rfl (Or.inl rfl)) (pgs_star (pg_name (i := 4) scParts.nd rfl (Or.inl rfl)))))))
      (pss_cons (ps_if (PW.pt (pw_or (pt_not (pt_val (pe_callB call_isi (by rfl) T.isi (by decide +kernel) (pa_cons (pv 2) (pa_cons (pe_bltn (v := .ty "str") (by rfl) T.str (by decide +kernel) rfl) pa_nil)))))
          (pw_or1 (pt_cmpR op_ne (pe_kget D (pe_glob (by rfl) gL (v := .ref dL) rfl) (pv 2) ⟨rfl, rfl, rfl, rfl⟩) (pe_callB call_len_seq (by rfl) T.len (by decide +kernel) (pa_cons (pv 0) pa_nil)) (nomark _))))) (pss_one (ps_ret pe_non)) pss_nil)
      (pss_cons (ps_set (i := 5) scParts.nd rfl (Or.inl rfl) (pe_call GN hr1 rfl cN.g cN.k bN .nil pass0 (pa_cons (pv 3) (pa_cons (pv 1) pa_nil))))
      (pss_one (ps_ret (pe_ifExp (pt_cmpR op_isN (pv 5) pe_non (nomark _)) pe_non (pe_tup (pa_cons (pv 5) (pa_cons (pv 4) pa_nil))))))))), ?_⟩
    have big : sizeLine > 20000 := by decide
    have no : isChg ts t = false → ∀ H', Same H H' → Q .non H' := fun z H' s' => by
      exact k1 z H' s'
    refine ⟨_, rfl, v, _, _, _, isTup t, rfl, .ty _, d.ty, kit_tup t, _, rfl, ?_⟩
    cases ht : isTup t with
    | false =>
      refine iteT (iteT (no ?_ H (Same.refl H)))
      cases t <;> first | rfl | cases ht
    | true =>
      obtain ⟨b, xs, us, m, cs, rfl, rfl, _, hb, r, _⟩ := d.tupOf ht
      have hl := r.length
      have hw : 3 + Vm.ws us ≤ 10000 := tw
      have hwl := ws_len us
      refine iteF ?_
      refine ⟨_, rfl, b, xs, rfl, .inr hb, _, _, rfl, rfl, _, rfl, ?_⟩
      by_cases few : (xs.length : Int) < 3
      · rw [decide_eq_true few]
        refine iteT (no ?_ H (Same.refl H))
        have : us.length < 3 := by omega
        show chgL ts us = false
        cases us with
        | nil => rfl
        | cons a us =>
          cases us with
          | nil => rfl
          | cons b us =>
            cases us with
            | nil => rfl
            | cons c us =>
              simp only [List.length_cons] at this
              omega
      rw [decide_eq_false few]
      refine iteF ?_
      obtain ⟨x1, x2, x3, xr, rfl⟩ : ∃ x1 x2 x3 xr, xs = x1 :: x2 :: x3 :: xr := by
        have few' : 3 ≤ xs.length := by omega
        clear few hl r hb
        match xs, few' with
        | x1 :: x2 :: x3 :: xr, _ => exact ⟨x1, x2, x3, xr, rfl⟩
      obtain ⟨u1, u2, u3, ur, rfl⟩ : ∃ u1 u2 u3 ur, us = u1 :: u2 :: u3 :: ur := by
        have h3 : 3 ≤ us.length := by
          rw [← hl]
          simp only [List.length_cons]
          omega
        clear hl r d k1 k2 no hw hwl tw ht
        match us, h3 with
        | u1 :: u2 :: u3 :: ur, _ => exact ⟨u1, u2, u3, ur, rfl⟩
      have lr : xr.length = ur.length := by
        simp only [List.length_cons] at hl
        omega
      have lu : 2 * (ur.length + 3) ≤ 10000 := by
        simp only [List.length_cons] at hwl
        omega
      cases r with
      | cons d1 r =>
      cases r with
      | cons d2 r =>
      rename_i c1 _ c2 c3
      refine ⟨_, rfl, b, _, rfl, hb, by show 2 ≤ xr.length + 3; omega, by show xr.length + 3 ≤ 16384; omega, fun L hL => ?_⟩
      have sL := same_upd (o := .lst (x3 :: xr)) hL
      have eL : upd H L (.lst (x3 :: xr)) L = some (.lst (x3 :: xr)) := upd_same
      refine ⟨_, _, rfl, _, _, rfl, _, _, rfl, rfl, ?_⟩
      show tSeq _ _ _ _ (upd H L (.lst (x3 :: xr)))
      generalize upd H L (.lst (x3 :: xr)) = H1 at sL eL ⊢
      refine ⟨_, rfl, x1, _, _, _, isStr u1, rfl, .ty _, (d1.same sL).ty, kit_str u1, _, rfl, ?_⟩
      cases hs : isStr u1 with
      | false =>
        refine iteT (iteT (no ?_ H1 sL))
        cases u1 <;> first | rfl | cases hs
      | true =>
      obtain ⟨kd, rfl⟩ : ∃ kd, u1 = .str kd := by cases u1 <;> first | exact ⟨_, rfl⟩ | cases hs
      cases d1
      refine iteF ?_
      obtain ⟨rr, en1, rv⟩ := lens kd
      refine ⟨rfl, _, rfl, kd, rr, lenV kd, rfl, en1, rv, _, rfl, b, _, rfl, .inr (sameT sL hb), ?_, _, rfl, ?_⟩
      · unfold lenV
        by_cases e1 : kd = insS
        · rw [if_pos e1]
          rfl
        · rw [if_neg e1]
          by_cases e2 : kd = "delete"
          · rw [if_pos e2]
            rfl
          · rw [if_neg e2]
            by_cases e3 : kd = "replace"
            · rw [if_pos e3]
              rfl
            · rw [if_neg e3]
              rfl
      have le2 : decide (lenV kd = V.int ((V.str kd :: x2 :: x3 :: xr).length : Nat)) = decide (lenV kd = .int ((ur.length + 3 : Nat) : Int)) := by
        have : (V.str kd :: x2 :: x3 :: xr).length = ur.length + 3 := by
          simp only [List.length_cons]
          omega
        rw [this]
      rw [le2]
      by_cases ek : lenV kd = .int ((ur.length + 3 : Nat) : Int)
      · rw [decide_eq_true ek]
        refine iteF ?_
        have chg : isChg ts (.tup (.str kd :: u2 :: u3 :: ur)) = rowsOk ts u2 (u3 :: ur) := by
          show (decide (lenV kd = .int ((ur.length + 3 : Nat) : Int)) && _) = _
          rw [decide_eq_true ek, Bool.true_and]
        refine ⟨_, rfl, _, rfl, x2, u2, m, _, q, ws, ts, rfl, d2.same sL, sameT sL hq, tbs_same hts sL, fun i w H2 fi hw2 s2 => ?_, fun fi H2 s2 => ?_⟩
        · obtain ⟨ti, et, a, rfl, tb⟩ := each_get hts hw2
          have s12 := sL.trans s2
          have ro : rowsOk ts u2 (u3 :: ur) = (u3 :: ur).all (isRow ti.ss.length ti.zs.length) := by
            unfold rowsOk
            rw [fi]
            show (match ts[i]? with | some ti => _ | none => _) = _
            rw [et]
          refine ⟨_, rfl, rfl, _, rfl, ?_⟩
          refine iteF ⟨_, rfl, _, rfl, ?_⟩
          refine ⟨by show 2 ≤ sizeLine; omega, fun p hp => ?_⟩
          have s3 := same_upd (o := .tup [.ref a, .ref L]) hp
          exact k2 _ p L a ti (x3 :: xr) (u3 :: ur) m _ (s12.trans s3) (SqT.of upd_same) (s3 _ _ (s2 _ _ eL)) (tb.same (s12.trans s3)) r (by show ur.length + 1 ≤ 5000; omega) (chg.trans ro)
        · refine ⟨_, rfl, rfl, _, rfl, ?_⟩
          have ro : rowsOk ts u2 (u3 :: ur) = false := by
            unfold rowsOk
            rw [fi]
          exact iteT (k1 (chg.trans ro) H2 (sL.trans s2))
      · rw [decide_eq_false ek]
        refine iteT (no ?_ H1 sL)
        show (decide (lenV kd = .int ((ur.length + 3 : Nat) : Int)) && _) = _
        rw [decide_eq_false ek, Bool.false_and]
end
def spChangeOf (K : PySem.W.Frag) (C : Addr) : Sp := fun vs H Q _ => ∃ (v : V) (t : Tr) (n : Nat) (bs : List Addr) (q : Addr) (ws : List V) (ts : List Ti), vs = [v, .ref q] ∧ Dt K H v t n bs ∧ t.w ≤ 10000 ∧ SqT K H q ws ∧ TbsAt K H C ws ts ∧ ∀ H', Same H H' → Q (.bl (isChg ts t)) H'
section
variable {P : Program} {w : World} {K : PySem.W.Frag} {mg : Str → Option Value} {base : Heap} {fNm fNms fCols fKey C CI fPt fR : Addr}
theorem scChangeOf : FnScope ["thing", "tables", "parts", "table", "rows", "row"] ["thing", "tables"] (defScope sChangeOf) := ⟨rfl, rfl, rfl, by decide +kernel, rfl, by decide +kernel, by decide +kernel⟩
theorem ok_changeof {f : Addr} {fd fdP fdR : FuncData} (F : Fun K "is_change_of" "is_change_of" sChangeOf f fd) (T : TxtP K mg fNm fNms) (U : TxtT K mg C CI fCols fKey)
    (cP : Calls K mg "changed_parts" fPt) (GP : FnOk P w K mg base CX0 2 fPt fdP ["thing", "tables"] (spParts K C)) (bP : Binds K fdP ["thing", "tables"] [])
    (mR : Meth K C "is_row" fR) (GR : FnOk P w K mg base CX0 2 fR fdR ["self", "thing"] (spRow K C)) (bR : Binds K fdR ["self", "thing"] []) :
    FnOk P w K mg base CX0 3 f fd ["thing", "tables"] (spChangeOf K C) := by
  refine F.ok scChangeOf (fun vs H Q E h => ?_) (fun cdv A outer s H vs Q E hr h => ?_)
  · obtain ⟨v, t, n, bs, q, ws, ts, rfl, _⟩ := h
    rfl
  · obtain ⟨v, t, n, bs, q, ws, ts, rfl, d, tw, hq, hts, k⟩ := h
    refine ⟨_, pss_cons (ps_set (i := 2) scChangeOf.nd rfl (Or.inl rfl) (pe_call GP hr rfl cP.g cP.k bP .nil pass0 (pa_cons (pv 0) (pa_cons (pv 1) pa_nil))))
      (pss_cons (ps_if (pt_cmpR op_isN (pv 2) pe_non (nomark _)) (pss_one (ps_ret pe_bl)) pss_nil)
      (pss_cons (ps_asg (pv 2) (pg_tup rfl (pgs_cons (pg_name (i := 3) scChangeOf.nd rfl (Or.inr rfl)) (pgs_cons (pg_name (i := 4) scChangeOf.nd rfl (Or.inl rfl)) pgs_nil))))
      (pss_one (ps_ret (pe_callB (cr_all rfl) (by rfl) T.all (by decide +kernel) (pa_cons (pe_lc (own := [("row", 5)]) (g := gName 5) (tt := tYes) rfl scChangeOf.nd (pi_list (pv 4))
            (blkOk_by (N := ["thing", "tables", "parts", "table", "rows", "row"]) (sc := defScope sChangeOf) (by decide +kernel)) (fun _ _ _ _ _ => pg_name (i := 5) scChangeOf.nd rfl (Or.inl rfl)) (fun _ _ _ _ _ => pts_nil)
            (fun _ _ _ _ _ => pe_meth (pv 3) U.cl mR GR hr bR .nil pass0 (pa_cons (pv 5) pa_nil))) pa_nil)))))), ?_⟩
    have big : sizeLine > 20000 := by decide
    refine ⟨_, rfl, _, rfl, v, t, n, bs, q, ws, ts, rfl, d, tw, hq, hts, fun z H1 s1 => ?_, fun H1 p L a ti ys us m cs s1 hp eL tb r lu e => ?_⟩
    · refine ⟨_, rfl, rfl, _, rfl, ?_⟩
      rw [z] at k
      exact iteT (k H1 s1)
    · refine ⟨_, rfl, rfl, _, rfl, ?_⟩
      refine iteF ?_
      rw [e] at k
      refine ⟨_, rfl, p, _, rfl, hp, rfl, _, _, rfl, _, _, rfl, rfl, ?_⟩
      obtain ⟨dx, a2, a3, a4, ha, _⟩ := tb.ex
      have lr := r.length
      refine ⟨_, rfl, L, rfl, ⟨_, SqL.of eL⟩, fun D2 hD2 => ?_⟩
      refine lc_list (K := K) (a := L) (xs := ys) (fun i H' => Same H1 H' ∧ H' D2 = some (.lst (((us.take i).map (isRow ti.ss.length ti.zs.length)).map V.bl))) ⟨same_upd hD2, upd_same⟩ (fun i H' _ z => SqL.of (z.1 _ _ eL)) ?_ ?_
      · rintro i2 y H3 hi ⟨s3, e3⟩
        refine ⟨rfl, ?_⟩
        dsimp only [tYes]
        rw [if_pos rfl]
        obtain ⟨t, ct, et2, dt, _⟩ := r.get hi
        refine ⟨_, rfl, a, dx, _, rfl, s3 _ _ ha, rfl, _, rfl, a, ti.nm, ti.ss, ti.zs, ti.ks, y, t, m, ct, rfl, tb.same s3, dt.same (s1.trans s3), fun H4 s4 => ⟨_, s4 _ _ e3, ?_, fun b o e => ?_, ?_⟩⟩
        · rw [List.length_map, List.length_map, List.length_take]
          omega
        · rw [upd_ne (ne_of_none e hD2)]
          exact s4 b o (s3 b o e)
        · rw [upd_same, List.take_add_one, et2]
          simp
      · rintro H3 ⟨s3, e3⟩
        rw [lr, List.take_length] at e3
        refine ⟨D2, _, rfl, SqL.of e3, ?_⟩
        rw [List.all_map]
        exact k H3 (s1.trans s3)
end
end Vm
/-! defs with a star parameter -/
namespace Vm
open PySem L2 StX
abbrev sSInit : Stmt := inClass (top 39) 1
abbrev sTableOf : Stmt := inClass (top 39) 3
abbrev sRowsOf : Stmt := inClass (top 39) 4
abbrev sIsChange : Stmt := inClass (top 39) 5
abbrev sIsPossible : Stmt := inClass (top 39) 6
abbrev sDo : Stmt := inClass (top 39) 7
section
variable {P : Program} {w : World} {K : PySem.W.Frag} {mg : Str → Option Value} {base : Heap}
theorem Fun.star {CX : CXT} {x qual pv : Str} {st : Stmt} {f : Addr} {fd : FuncData} {N ps : List Str} {k : Nat} {sp : Sp} (F : Fun K x qual st f fd) (S : FnScope N (ps ++ [pv]) (defScope st)) (hCX : CXUp CX)
    (hb : ∀ (kV doc pm : Value) (an : Option Addr) (cdv ct : Value) (us rest : List Value), us.length = ps.length → bindArgs (PySem.W.fnOf x qual (defArgs st) (defBody st) (defScope st) .none kV doc pm an cdv ct) ⟨us ++ rest, []⟩ = (newTuple rest >>= fun t => pure (ps.zip us ++ [(pv, t)])))
    (hbody : ∀ (cdv : Value) (A : Around) (outer : List Env) (s : Shared) (H : Hp) (vs : List V) (Q : VK) (E : XK), Room k (A.deeper (PyProof.Rows.envOfC qual (defScope st) s.heap.objs.size f cdv)) → sp vs H Q E →
      ∃ t, PSs (cxOf CX P w K mg base N qual (defScope st) f cdv A outer s H E) (defBody st) t ∧ t { nx := fun _ H' => Q .non H', rt := Q } (start N vs) H) :
    FnR P w K mg base CX (k + 1) f (fun vs H Q E => ∃ ws rest, vs = ws ++ rest ∧ ws.length = ps.length ∧ rest.length ≤ sizeLine ∧ ∀ p, H p = Option.none → sp (ws ++ [V.ref p]) (upd H p (.tup rest)) Q E) := by
  obtain ⟨oc, od, kV, doc, pm, an, cdv, ct, osl, rfl, lk, hcd⟩ := F.ex
  exact fn_star lk hcd S hCX (hb kV doc pm an cdv ct) fun A outer s H vs Q E hr q => hbody cdv A outer s H vs Q E hr q
theorem bind_do (kV doc pm : Value) (an : Option Addr) (cdv ct : Value) : ∀ us rest : List Value, us.length = ["self"].length → bindArgs (PySem.W.fnOf "do" "Store.do" (defArgs sDo) (defBody sDo) (defScope sDo) .none kV doc pm an cdv ct) ⟨us ++ rest, []⟩ = (newTuple rest >>= fun t => pure ((["self"] : List Str).zip us ++ [(("changes" : Str), t)])) :=
  bind_star1 (B := fun vs => bindArgs (PySem.W.fnOf "do" "Store.do" (defArgs sDo) (defBody sDo) (defScope sDo) .none kV doc pm an cdv ct) ⟨vs, []⟩) (p1 := "self") (pv := "changes") (fun a => by rfl) (fun a r rs => by rfl)
theorem bind_sinit (kV doc pm : Value) (an : Option Addr) (cdv ct : Value) : ∀ us rest : List Value, us.length = ["self"].length → bindArgs (PySem.W.fnOf "__init__" "Store.__init__" (defArgs sSInit) (defBody sSInit) (defScope sSInit) .none kV doc pm an cdv ct) ⟨us ++ rest, []⟩ = (newTuple rest >>= fun t => pure ((["self"] : List Str).zip us ++ [(("tables" : Str), t)])) :=
  bind_star1 (B := fun vs => bindArgs (PySem.W.fnOf "__init__" "Store.__init__" (defArgs sSInit) (defBody sSInit) (defScope sSInit) .none kV doc pm an cdv ct) ⟨vs, []⟩) (p1 := "self") (pv := "tables") (fun a => by rfl) (fun a r rs => by rfl)
theorem scDo : FnScope ["self", "changes", "change", "done"] ["self", "changes"] (defScope sDo) := ⟨rfl, rfl, rfl, by decide +kernel, rfl, by decide +kernel, by decide +kernel⟩
theorem scSInit : FnScope ["self", "tables", "table"] ["self", "tables"] (defScope sSInit) := ⟨rfl, rfl, rfl, by decide +kernel, rfl, by decide +kernel, by decide +kernel⟩
theorem scTableOf : FnScope ["self", "name", "table"] ["self", "name"] (defScope sTableOf) := ⟨rfl, rfl, rfl, by decide +kernel, rfl, by decide +kernel, by decide +kernel⟩
theorem scRowsOf : FnScope ["self", "name"] ["self", "name"] (defScope sRowsOf) := ⟨rfl, rfl, rfl, by decide +kernel, rfl, by decide +kernel, by decide +kernel⟩
theorem scIsChange : FnScope ["self", "thing"] ["self", "thing"] (defScope sIsChange) := ⟨rfl, rfl, rfl, by decide +kernel, rfl, by decide +kernel, by decide +kernel⟩
theorem scIsPossible : FnScope ["self", "change", "name"] ["self", "change"] (defScope sIsPossible) := ⟨rfl, rfl, rfl, by decide +kernel, rfl, by decide +kernel, by decide +kernel⟩
end
end Vm
namespace Vk
open PySem
/-! a family of exception classes: own classes above `tail`, made by the built-in newId of the class nB, set up by the built-in initId of the class iB -/
abbrev veT : List Value := [.type "ValueError", .type "Exception", .type "BaseException", .type "object"]
abbrev keT : List Value := [.type "KeyError", .type "LookupError", .type "Exception", .type "BaseException", .type "object"]
structure Fam (nB newId nInit iB initId : String) (nTail tail : List Value) : Prop where
  F : ExcBaseFacts nB newId nInit nTail
  hasN : tail.contains (.type nB) = true
  hasI : tail.contains (.type iB) = true
  hasB : tail.contains (.type "BaseException") = true
  hasO : tail.contains (.type "object") = true
  noA : tail.contains (.type "AttributeError") = false
  noN : tail.contains (.type "NameError") = false
  iPlain : plainId initId = true
  iEntry : entryFor table initId = some Builtin.«BaseException.__init__»
  iSplit : splitId initId = some (iB, "__init__")
  iKind : builtinKind initId = some .slot
  iRow : Manifest.signature? initId = some ⟨.positional, "*", iB, .self, [⟨"args", .varPos, false⟩]⟩
  iStar : (iB != "*") = true
  passes : ∀ self : Value, refuseLoop self "__setattr__" tail = pure ()
theorem famV : Fam "ValueError" "ValueError.__new__" "ValueError.__init__" "ValueError" "ValueError.__init__" veT veT where
  F := F.excBase_ValueError
  hasN := by decide +kernel
  hasI := by decide +kernel
  hasB := by decide +kernel
  hasO := by decide +kernel
  noA := by decide +kernel
  noN := by decide +kernel
  iPlain := F.excBase_ValueError.init.plain
  iEntry := F.excBase_ValueError.initEntry
  iSplit := F.excBase_ValueError.initSplit
  iKind := F.excBase_ValueError.initKind
  iRow := F.excBase_ValueError.initRow
  iStar := by decide +kernel
  passes := F.store_ValueError.passes
theorem famK : Fam "LookupError" "LookupError.__new__" "LookupError.__init__" "KeyError" "KeyError.__init__" [.type "LookupError", .type "Exception", .type "BaseException", .type "object"] keT where
  F := F.excBase_LookupError
  hasN := by decide +kernel
  hasI := by decide +kernel
  hasB := by decide +kernel
  hasO := by decide +kernel
  noA := by decide +kernel
  noN := by decide +kernel
  iPlain := by decide +kernel
  iEntry := entryFor_alias (id' := "BaseException.__init__") (by
    rw [fastTable_eq_tree]
    kernel_rfl) rfl (by decide +kernel) (by
    rw [fastTable_eq_tree]
    kernel_rfl)
  iSplit := by kernel_rfl
  iKind := by kernel_rfl
  iRow := by kernel_rfl
  iStar := by decide +kernel
  passes := fun self => by kernel_rfl
/-- the mro above the class itself: own classes, then the tail -/
def Above (tail : List Value) : List Value → Prop
  | .ref _ :: r => Above tail r
  | l => l = tail
theorem above_has {tail : List Value} (X : String) : ∀ {l : List Value}, Above tail l → l.contains (.type X) = tail.contains (.type X)
  | [], h => by rw [show ([] : List Value) = tail from h]
  | .ref c :: r, h => by
    rw [List.contains_cons, above_has X (l := r) h]
    rfl
  | .none :: r, h => by rw [show (Value.none :: r) = tail from h]
  | .ellipsis :: r, h => by rw [show (Value.ellipsis :: r) = tail from h]
  | .notImplemented :: r, h => by rw [show (Value.notImplemented :: r) = tail from h]
  | .bool b :: r, h => by rw [show (Value.bool b :: r) = tail from h]
  | .int i t :: r, h => by rw [show (Value.int i t :: r) = tail from h]
  | .float i t :: r, h => by rw [show (Value.float i t :: r) = tail from h]
  | .str i t :: r, h => by rw [show (Value.str i t :: r) = tail from h]
  | .bytes i t :: r, h => by rw [show (Value.bytes i t :: r) = tail from h]
  | .type i :: r, h => by rw [show (Value.type i :: r) = tail from h]
  | .builtin i :: r, h => by rw [show (Value.builtin i :: r) = tail from h]
end Vk
namespace Vk
open PySem Builtin Builtin.ObjectAttr
/-- a fresh exception, its arguments at tp -/
abbrev exNew (C tp : Addr) : Obj := { cls := .ref C, data := .fields #[.ref tp, .none, .none, .none, .bool false, .none] }
section
variable {M : Model} {prog : Program} {w : World} {A : Around} {E : Value → Shared → Prop} {R : Result → Shared → Prop} {h : Heap} {g : Array GenState} {d : Drawn} {t : Nat} {os : OsState}
variable {nm q : Str} {C N : Addr} {bs bm : List Value} {hdct : Bool} {sn : List Str} {sub : List Value} {ab : Bool} {col : Option Bool} {dd : Option Addr} {k0 k1 k2 k3 k5 : Option Value}
variable {nB newId nInit iB initId : String} {nTail tail : List Value}
theorem fam_check_new (Z : Fam nB newId nInit iB initId nTail tail) (up : Above tail bm) {rest : List Value} {kw : List (Str × Value)} {Q : Unit → Shared → Prop}
    (cl : h.get? C = some (excClassObj nm q C N bs bm hdct sn sub ab col dd k0 k1 k2 k3 k5 newId)) (go : Q () ⟨h, g, d, t, os⟩) : wpAny M A (checkBuiltinCall newId ⟨.ref C :: rest, kw⟩) Q E ⟨h, g, d, t, os⟩ := by
  have isB : (Value.ref C :: bm).contains (.type nB) = true := by
    rw [List.contains_cons, above_has nB up, Z.hasN, Bool.or_true]
  have nStar := Z.F.noStar
  simp only [checkBuiltinCall, Z.F.newKind, Z.F.newSplit, Z.F.newRow]
  repeat (first
    | refine wpAny_loadPart_at cl ?_
    | (refine wpAny_isSubtype_exc cl ?_; rw [isB])
    | refine wpAny_staticBase_exc cl ?_
    | refine wpAny_madeBy_exc cl ?_
    | simp only [bne_self_eq_false, Bool.false_eq_true, if_false]
    | wp_step)
  exact go
theorem fam_new (Z : Fam nB newId nInit iB initId nTail tail) (up : Above tail bm) {rest : List Value} {kw : List (Str × Value)}
    (cl : h.get? C = some (excClassObj nm q C N bs bm hdct sn sub ab col dd k0 k1 k2 k3 k5 newId)) (sz : rest.length ≤ sizeLine)
    (go : R (.ok (.ret (.ref (h.objs.size + 1)))) ⟨(h.push { cls := .type "tuple", data := .seq rest.toArray }).push (exNew C h.objs.size), g, d, t, os⟩) :
    codeAny (model prog w) A (.builtin newId ⟨.ref C :: rest, kw⟩) R ⟨h, g, d, t, os⟩ := by
  have fe := Z.F.ends
  have isB : (Value.ref C :: bm).contains (.type nB) = true := by
    rw [List.contains_cons, above_has nB up, Z.hasN, Bool.or_true]
  have isA : (Value.ref C :: bm).contains (.type "AttributeError") = false := by
    rw [List.contains_cons, above_has _ up, Z.noA]
    rfl
  have isN : (Value.ref C :: bm).contains (.type "NameError") = false := by
    rw [List.contains_cons, above_has _ up, Z.noN]
    rfl
  refine codeAny_builtinAt Z.F.entry ?_
  unfold Builtin.«BaseException.__new__»
  refine wpAt_bind ?_
  show wpAt _ _ _ (stack >>= _) _ _ _
  refine wpAt_bind (wpAt_stack fun p below => wpAt_of_wpAny ?_)
  wp_walk
  refine wpAt_of_wpAny ?_
  rw [Z.F.owner]
  repeat (first
    | with_reducible refine wpAny_madeHere_exc Z.F.canon cl ?_
    | with_reducible refine wpAny_loadPart_at cl ?_
    | (with_reducible refine wpAny_isSubtype_exc cl ?_; first | rw [isB] | rw [isA] | rw [isN])
    | wp_step)
  show R _ _
  rw [Heap.size_push]
  exact go
theorem fam_check_init (Z : Fam nB newId nInit iB initId nTail tail) (up : Above tail bm) {e : Addr} {oe : Obj} {rest : List Value} {Q : Unit → Shared → Prop}
    (cl : h.get? C = some (excClassObj nm q C N bs bm hdct sn sub ab col dd k0 k1 k2 k3 k5 newId)) (he : h.get? e = some oe) (hc : oe.cls = .ref C) (go : Q () ⟨h, g, d, t, os⟩) :
    wpAny M A (checkBuiltinCall initId ⟨.ref e :: rest, []⟩) Q E ⟨h, g, d, t, os⟩ := by
  have isB : (Value.ref C :: bm).contains (.type iB) = true := by
    rw [List.contains_cons, above_has iB up, Z.hasI, Bool.or_true]
  have nStar := Z.iStar
  simp only [checkBuiltinCall, Z.iKind, Z.iSplit, Z.iRow]
  repeat (first
    | (with_reducible refine wpAny_loadPart_at he ?_; rw [hc])
    | with_reducible refine wpAny_loadPart_at cl ?_
    | (with_reducible refine wpAny_isSubtype_exc cl ?_; rw [isB])
    | wp_step)
  refine wpAny_onRaise ?_
  have st : ∀ (a b : String) (n : Nat), Bind.check ⟨.positional, "*", iB, .self, [⟨"args", .varPos, false⟩]⟩ a b n (List.map (fun x => x.fst) ({ pos := Value.ref e :: rest } : Args).kw) = pure () := fun a b n => check_star_args _ _ _ _ _ _
  rw [st]
  exact wpAny_pure go
/-- the built-in __init__ on a fresh exception -/
theorem fam_init (Z : Fam nB newId nInit iB initId nTail tail) (up : Above tail bm) {e tp : Addr} {rest : List Value} (cl : h.get? C = some (excClassObj nm q C N bs bm hdct sn sub ab col dd k0 k1 k2 k3 k5 newId))
    (he : h.get? e = some (exNew C tp)) (sz : rest.length ≤ sizeLine)
    (go : ∀ h' t1, (∀ b o, b ≠ e → h.get? b = some o → h'.get? b = some o) → h'.get? e = some (exNew C t1) → R (.ok (.ret .none)) ⟨h', g, d, t, os⟩) :
    codeAny (model prog w) A (.call (.builtin initId) ⟨.ref e :: rest, []⟩) R ⟨h, g, d, t, os⟩ := by
  refine codeAny_call_builtin Z.iPlain Z.iEntry (fam_check_init Z up cl he rfl ?_)
  wp_walk
  refine go _ h.objs.size (fun b o nb ho => ?_) ?_
  · exact (Heap.get?_update_other _ _ (Ne.symm nb)).trans (Heap.get?_push_of_some _ ho)
  · refine (Heap.get?_update_self _ (Heap.get?_push_of_some _ he) rfl).trans ?_
    rfl
/-- the class is called: the built-in __new__, then the class's own __init__ -/
theorem fam_call (Z : Fam nB newId nInit iB initId nTail tail) (up : Above tail bm) {rest : List Value} {kw : List (Str × Value)} {fI : Addr}
    (cl : h.get? C = some (excClassObj nm q C N bs bm hdct sn sub ab col dd k0 k1 k2 k3 k5 newId))
    (hi : W.Looks (model prog w) h (typeLookup (.ref C) "__init__") (some (.ref fI))) (hb : ∀ self, W.Looks (model prog w) h (bindSpecial (.ref fI) self) (.ref fI, [self])) (sz : rest.length ≤ sizeLine)
    (go : codeAny (model prog w) (A.under (.builtin "type.__call__" ⟨.ref C :: rest, kw⟩)) (.call (.ref fI) ⟨.ref (h.objs.size + 1) :: rest, kw⟩) (W.InitBack (h.objs.size + 1) R)
      ⟨(h.push (W.kdv_tup rest)).push (exNew C h.objs.size), g, d, t, os⟩) :
    codeAny (model prog w) A (.call (.ref C) ⟨rest, kw⟩) R ⟨h, g, d, t, os⟩ := by
  have f1 := tc_lookup
  have f2 := tc_bind (.ref C)
  have f3 := tc_sub
  have ty : (⟨h, g, d, t, os⟩ : Shared).TypeIs (.ref C) "type" := ⟨_, cl, rfl⟩
  have k : ∀ b o, h.get? b = some o → ((h.push (W.kdv_tup rest)).push (exNew C h.objs.size)).get? b = some o := fun b o e => Heap.get?_push_of_some _ (Heap.get?_push_of_some _ e)
  have cl2 := k _ _ cl
  have there : ((h.push (W.kdv_tup rest)).push (exNew C h.objs.size)).get? (h.objs.size + 1) = some (exNew C h.objs.size) := by heap_get
  have isC : (Value.ref C :: bm).contains (.ref C) = true := by simp
  have i1 := hi.keeps k
  have b1 := (hb (.ref (h.objs.size + 1))).keeps k
  refine codeAny_of_tree ?_
  show wpAny _ _ (callAny (.ref C) _) _ _ _
  repeat (any_goals (first | assumption | with_reducible refine wpAny_loadPart_at cl ?_ | wp_step))
  refine ⟨rfl, ?_⟩
  refine codeAny_call_builtin_at (Code.quiet_builtin _ (by decide +kernel)) entry_typeCall ?_
  have chk : ∀ {Q : Unit → Shared → Prop} {A' : Around} {E' : Value → Shared → Prop}, Q () ⟨h, g, d, t, os⟩ → wpAny (model prog w) A' (checkBuiltinCall "type.__call__" ⟨.ref C :: rest, kw⟩) Q E' ⟨h, g, d, t, os⟩ := by
    intro Q A' E' go
    simp only [checkBuiltinCall, tc_kind, tc_split]
    repeat (any_goals (first | assumption | with_reducible refine wpAny_loadPart_at cl ?_ | with_reducible refine wpAny_onRaise ?_ | with_reducible refine wpAny_map ?_ | wp_step))
  refine chk ?_
  repeat (first | with_reducible refine wpAny_loadPart_at cl ?_ | with_reducible refine wpAny_madeBy_exc cl ?_ | wp_step)
  refine codeAny_call_builtin_code (Code.quiet_builtin _ Z.F.quiet) (fam_check_new Z up cl ?_)
  refine fam_new Z up cl sz ?_
  show wpAny _ _ _ _ _ ⟨(h.push (W.kdv_tup rest)).push (exNew C h.objs.size), g, d, t, os⟩
  unfold isInstance
  repeat (first | with_reducible refine wpAny_loadPart_at there ?_ | (with_reducible refine wpAny_isSubtype_exc cl2 ?_; rw [isC]) | wp_step)
  show wpAny _ _ (typeLookup (.ref C) _) _ _ _
  refine i1.at ?_
  refine wpAny_holding (wpAny_bind (b1.at ?_))
  refine wpAny_bind (wpAny_call (codeAny_mono go fun r s' z => ?_))
  match r, z with
  | .error e, z => exact z
  | .ok (.ret v), z =>
    obtain ⟨rfl, z⟩ := z
    exact wpAny_pure (wpAny_pure z)
end
end Vk
namespace Vk
open PySem Builtin Builtin.ObjectAttr
section
variable {prog : Program} {w : World} {A : Around} {E : Value → Shared → Prop} {R : Result → Shared → Prop} {hp : Heap} {g : Array GenState} {d : Drawn} {t : Nat} {os : OsState}
variable {nB newId nInit iB initId : String} {nTail tail : List Value}
theorem fam_passes (Z : Fam nB newId nInit iB initId nTail tail) (self : Value) : ∀ {l : List Value}, Above tail l → refuseLoop self "__setattr__" l = pure ()
  | [], h => by
    rw [show ([] : List Value) = tail from h]
    exact Z.passes self
  | .ref c :: r, h => (refuseLoop_ref ..).trans (fam_passes Z self (l := r) h)
  | .none :: r, h => by
    rw [show (Value.none :: r) = tail from h]
    exact Z.passes self
  | .ellipsis :: r, h => by
    rw [show (Value.ellipsis :: r) = tail from h]
    exact Z.passes self
  | .notImplemented :: r, h => by
    rw [show (Value.notImplemented :: r) = tail from h]
    exact Z.passes self
  | .bool b :: r, h => by
    rw [show (Value.bool b :: r) = tail from h]
    exact Z.passes self
  | .int i t :: r, h => by
    rw [show (Value.int i t :: r) = tail from h]
    exact Z.passes self
  | .float i t :: r, h => by
    rw [show (Value.float i t :: r) = tail from h]
    exact Z.passes self
  | .str i t :: r, h => by
    rw [show (Value.str i t :: r) = tail from h]
    exact Z.passes self
  | .bytes i t :: r, h => by
    rw [show (Value.bytes i t :: r) = tail from h]
    exact Z.passes self
  | .type i :: r, h => by
    rw [show (Value.type i :: r) = tail from h]
    exact Z.passes self
  | .builtin i :: r, h => by
    rw [show (Value.builtin i :: r) = tail from h]
    exact Z.passes self
/-- x.name = v, x an exception without a dict -/
theorem fam_store (Z : Fam nB newId nInit iB initId nTail tail) {K : W.Frag} {name : Str} {tk : Tok} {v : Value} {x C tp : Addr} {cd : ClassData} {bm : List Value} (X : K.In hp) (hx : hp.get? x = some (exNew C tp))
    (hcd : W.clsIn K C = some cd) (hm : cd.mro = .ref C :: bm) (up : Above tail bm) (hh : cd.hasDict = true) (ha : W.findIn K (.ref C) name = some none)
    (go : ∀ h' tk' dx, (∀ b o, b ≠ x → hp.get? b = some o → h'.get? b = some o) → hp.objs.size ≤ dx → dx ≠ x → h'.get? x = some { (exNew C tp) with dict := some dx } →
      h'.Ns1 dx (fun y => if y = name then some v else none) → R (.ok (.ret .none)) ⟨h', g, d, tk', os⟩) :
    codeAny (model prog w) A (.call (.builtin "object.__setattr__") ⟨[.ref x, .str name tk, v], []⟩) R ⟨hp, g, d, t, os⟩ := by
  have up' : Above tail (.ref C :: bm) := up
  have I : W.InstAt hp x (exNew C tp) C none := ⟨hx, rfl, rfl, trivial⟩
  have SO := F.store_object
  have isO : cd.mro.contains (.type "object") = true := by
    rw [hm, above_has _ up']
    exact Z.hasO
  have far : x ≠ hp.objs.size := Nat.ne_of_lt (Heap.lt_size hx)
  have inst : W.Looks (model prog w) hp (isInstance (.ref x) (.type "object")) true := I.type.andThen (W.looks_mroIn X (by
    unfold W.mroIn
    rw [hcd, Option.bind_some, if_neg (by rw [hm]; exact Bool.false_ne_true), isO]))
  refine codeAny_call_builtin SO.slot.plain SO.entry (@W.check_slot (model prog w) _ _ ⟨hp, g, d, t, os⟩ "object.__setattr__" "object" "__setattr__" (.ref x) [.str name tk, v] [] _ SO.kind SO.split inst (SO.args (.ref x) (.str name tk) v) ?_)
  have lm : W.Looks (model prog w) hp (mroOf (.ref C)) cd.mro := (W.looks_clsIn X hcd).andThen .now
  have lt : W.Looks (model prog w) hp (storeTaker? none) none := .now
  have lc : W.Looks (model prog w) hp (classData C) cd := W.looks_clsIn X hcd
  rw [W.osa_eq, refuse_eq]
  refine wpAny_bind (wpAny_bind (I.type.at (wpAny_bind (lm.at ?_))))
  rw [hm, fam_passes Z _ up']
  refine wpAny_pure (wpAny_bind (I.type.at (wpAny_bind ((W.looks_findIn X ha).at (wpAny_bind (lt.at ?_))))))
  show wpAny _ _ (storeInOwnDict (.ref x) (.ref C) (.str name tk) name v false) _ _ _
  obtain ⟨nm, bs, mro, ns, qn, hd, sn, sb, ab, col, del⟩ := cd
  dsimp only at hh
  subst hh
  unfold storeInOwnDict ownDictForStores
  repeat (first
    | with_reducible refine HandSPX.store_in_new ?_ ?_
    | with_reducible refine wpAny_loadPart_at hx ?_
    | with_reducible refine lc.at ?_
    | wp_step)
  · exact ⟨_, #[], _, (Heap.get?_update_ne _ _ _ _ far.symm).trans (Heap.get?_push_at rfl rfl), rfl, fun e he => absurd he (by simp), fun _ => rfl⟩
  · intro h' tk' hn' hs
    have hx1 : (hp.push { cls := .type "dict", data := .dict #[] }).get? x = some (exNew C tp) := Heap.get?_push_of_some _ hx
    refine go h' tk' hp.objs.size (fun b o nb ho => ?_) (Nat.le_refl _) far.symm ?_ hn'
    · exact (hs.2 b (Nat.ne_of_lt (Heap.lt_size ho))).trans ((Heap.get?_update_ne _ _ _ _ nb).trans (Heap.get?_push_of_some _ ho))
    · exact (hs.2 x far).trans (Heap.get?_update_self _ hx1 rfl)
end
end Vk
namespace Vk
open PySem L2
/-- what the written part says of an own exception class at C, made by newId -/
structure XC (K : PySem.W.Frag) (C : Addr) (newId : String) (tail : List Value) : Prop where
  cls : ∃ nm q N bs bm sn sub ab col dd k0 k1 k2 k3 k5, K.lookup C = some (excClassObj nm q C N bs bm true sn sub ab col dd k0 k1 k2 k3 k5 newId) ∧ Above tail bm
  sa : PySem.W.findIn K (.ref C) "__setattr__" = some (some (.builtin "object.__setattr__"))
  exC : PySem.W.subIn K (.ref C) (.type "BaseException") = some true
  tyC : PySem.W.typeIn K (.ref C) = some (.type "type")
  kC : PySem.W.keepIn K (.ref C) = true
  ga : PySem.W.findIn K (.ref C) "__getattribute__" = some (some (.builtin "BaseException.__getattribute__"))
  gg : PySem.W.findIn K (.ref C) "__getattr__" = some none
  hd : PySem.W.hasDictIn K C = true
  ca : PySem.W.findIn K (.ref C) "__class__" = some (some (.builtin "object.__class__"))
  mo : PySem.W.mroIn K C (.type "object") = some true
/-- __init__(self, v) of such a class: self.f = v -/
def spXInit (C : Addr) (f : Str) : Sp := fun vs H Q _ => ∃ (e : Addr) (v : V), vs = [.ref e, v] ∧ H e = some (exo e C none) ∧ ∀ dx, H dx = none → dx ≠ e → Q .non (upd (upd H dx (exd dx [(f, v)])) e (exo e C (some dx)))
/-- an exception of the class at C stands at e, with the field f -/
def XAt (H : Hp) (e C dx : Addr) (f : Str) (v : V) : Prop := dx ≠ e ∧ H e = some (exo e C (some dx)) ∧ H dx = some (exd dx [(f, v)])
section
variable {X : Cx} {nB newId nInit iB initId : String} {nTail tail : List Value}
/-- Base.__init__(self, ..), Base an own class that has no __init__ of its own -/
def tBInit (K : PySem.W.Frag) (newId : String) (tail : List Value) (ta : TA) : TE := fun σ H Q => ta σ H fun vs H1 => ∃ (a C : Addr) (ws : List V), vs = .ref a :: ws ∧ ws.length ≤ 1000 ∧ XC K C newId tail ∧ H1 a = some (exo a C none) ∧ Q .non H1
theorem pe_binit (Z : Fam nB newId nInit iB initId nTail tail) {T : Addr} {x : Str} {e : Expr} {es : List Expr} {ta : TA} {p1 p2 pos : Pos} {pl : Sem Bool} (hg : Gl X x) (hm : X.mg x = some (.ref T))
    (sg : PySem.W.specialIn X.K (.ref T) "__getattribute__" = some (some (.builtin "type.__getattribute__"))) (ty : PySem.W.typeIn X.K (.ref T) = some (.type "type")) (rd : PySem.W.readsIn X.K T (.type "type") = true)
    (fi : PySem.W.findCls X.K (.ref T) (.type "type") "__init__" = some (.val (.builtin initId))) (hh : PySem.W.handedIn (.builtin initId) = true) (ha : PA X (e :: es) ta) (hdb : (x == ("__debug__" : Str)) = false := by decide)
    (hc : eval (.Call (.Attribute (.Name x p1) "__init__" p2) (e :: es) [] pos) X.env = (do
      let ov ← eval (.Name x p1) X.env
      standAt p2.atName
      let (f, first) ← holding [ov] (getMethod ov "__init__" pl)
      callWith pos f first (backTo pos (starEach (e :: es) X.env)) (backToKw pos (keywordEach [] X.env))) := by rfl)
    (he : starEach (e :: es) X.env = (false, eval e X.env) :: starEach es X.env := by rfl) (hpl : (backTo pos (starEach es X.env)).any (·.1) = false := by rfl) :
    PE X (.Call (.Attribute (.Name x p1) "__init__" p2) (e :: es) [] pos) (tBInit X.K newId tail ta) := by
  refine ⟨fun pins s σ H Q I h => ?_⟩
  refine PySem.W.methodCall_KW (ld_glob I hg hm ?_ hdb) hc
  obtain ⟨m, fr⟩ := I.fr
  refine PySem.W.method_of_cls fr I.ok.mod.kin sg (PySem.W.cls_val fr I.ok.mod.kin ty rd fi hh ?_)
  show wpAny _ _ (callWith pos (Value.builtin initId) [] (backTo pos (starEach (e :: es) X.env)) []) _ _ _
  refine PyProof.Rows.callWith_method1 (thn (ha.run pos pins _ σ H _ (I.tok _) h) fun us s1 ⟨vs, H1, I1, r1, a, C, ws, ev, hl, T, ea, q⟩ => ?_) he hpl
  subst ev
  cases r1 with
  | @cons _ u0 _ ur ra rw' =>
    obtain rfl : u0 = Value.ref a := ra
    have sz : ur.length ≤ sizeLine := by
      rw [← Paired.length rw']
      exact Nat.le_trans hl (by decide)
    obtain ⟨nm, q', N, bs, bm, sn, sub, ab, col, dd, k0, k1, k2, k3, k5, cl, up⟩ := T.cls
    obtain ⟨t1, ho⟩ := exo_at I1.hok ea
    obtain ⟨hp, g, d, t, os⟩ := s1
    refine wpAny_call (fam_init Z up (I1.kIn _ _ cl) ho sz fun h' t2 k hx => ?_)
    have J := I1.write (t' := t) (x := a) (e := a) (o := exo a C none) (by rw [ea]; exact True.intro) (.inl rfl) k ⟨_, hx⟩ (exo_ok hx)
    have eu : upd H1 a (exo a C none) = H1 := by
      funext b
      by_cases hb : b = a
      · rw [hb, upd_same, ea]
      · rw [upd_ne hb]
    rw [eu] at J
    exact ⟨.non, H1, J, rfl, q⟩
/-- self.f = e, the first field -/
def tXSt (K : PySem.W.Frag) (newId : String) (tail : List Value) (f : Str) (to te : TE) : TS := fun D σ H => te σ H fun y H1 => to σ H1 fun x H2 => ∃ a C : Addr, x = .ref a ∧ XC K C newId tail ∧ PySem.W.findIn K (.ref C) f = some none ∧
  H2 a = some (exo a C none) ∧ ∀ dx, H2 dx = none → dx ≠ a → D.nx σ (upd (upd H2 dx (exd dx [(f, y)])) a (exo a C (some dx)))
theorem ps_xst (Z : Fam nB newId nInit iB initId nTail tail) {o e : Expr} {f : Str} {to te : TE} {pos p' : Pos} (ho : PE X o to) (he : PE X e te) (hs : swapsWith e (some (.Attribute o f p')) pos.line X.env = pure false := by rfl) :
    PS X (.Assign [.Attribute o f p'] e pos) (tXSt X.K newId tail f to te) := by
  refine ⟨fun pins s σ H D I h => ?_⟩
  refine plainObj_wpAny_Assign_Attribute (thn (he.run pins s σ H _ I h) fun v s1 ⟨y, H1, I1, r1, q1⟩ => thn (ho.run pins s1 σ H1 _ I1 q1) fun u s2 ⟨x, H2, I2, r2, a, C, ex, T, hno, ea, q⟩ => ?_) hs
  subst ex
  obtain rfl : u = Value.ref a := r2
  obtain ⟨nm, q', N, bs, bm, sn, sub, ab, col, dd, k0, k1, k2, k3, k5, cl, up⟩ := T.cls
  have hcl : PySem.W.clsIn X.K C = some { name := nm, bases := bs, mro := .ref C :: bm, ns := N, qualname := q', hasDict := true, slotNames := sn, subclasses := sub, abstract := ab, collection := col, hasDel := false } := by
    unfold PySem.W.clsIn
    rw [cl] <;> rfl
  obtain ⟨t1, hx⟩ := exo_at I2.hok ea
  obtain ⟨hp, g, d, t, os⟩ := s2
  refine PySem.W.set_plain I2.kIn (ox := exNew C t1) (od := none) ⟨hx, rfl, rfl, trivial⟩ T.sa ?_
  refine fam_store Z I2.kIn hx hcl rfl up rfl hno (fun h' tk' dx k dn dne hx' hn => ?_)
  have nd : H2 dx = none := I2.hok.fresh dn
  have nx : ∀ {b : Addr} {ob : Obj}, hp.get? b = some ob → b ≠ dx := fun {b ob} z => Nat.ne_of_lt (Nat.lt_of_lt_of_le (Heap.lt_size z) dn)
  have na : ∀ {b : Addr}, H2 b = none → b ≠ a := fun {b} n z => by
    rw [z, ea] at n
    cases n
  have U : Un X.fs [] H2 (upd (upd H2 dx (exd dx [(f, y)])) a (exo a C (some dx))) hp h' := {
    keep := fun b ob z n _ _ => k b ob (na n) z
    slot := fun b ob z n _ _ => ⟨ob.slots, k b ob (na n) z⟩
    free := fun b ob z n _ => by
      rw [upd_ne (na n), upd_ne (nx z)]
      exact n
    there := fun b ob z _ => by
      by_cases hb : b = a
      · exact ⟨_, by rw [hb]; exact hx'⟩
      · exact ⟨ob, k b ob hb z⟩
    tups := fun b xs z => by
      rw [upd_ne (at_ne ea z exo_tup), upd_ne (ne_of_none z nd)]
      exact z
    frzs := fun b ob v' z => by
      rw [upd_ne (at_ne ea z exo_frz), upd_ne (ne_of_none z nd)]
      exact z
    tbls := fun b ps z => ⟨#[], by
      rw [upd_ne (at_ne ea z exo_tbl), upd_ne (ne_of_none z nd), z]
      simp⟩ }
  refine ⟨σ, _, I2.un (t' := tk') U fun b ob z => ?_, q dx nd dne⟩
  by_cases hb : b = a
  · subst hb
    rw [upd_same] at z
    cases z
    exact exo_ok hx'
  · rw [upd_ne hb] at z
    by_cases hd : b = dx
    · subst hd
      rw [upd_same] at z
      cases z
      exact exd_ok hn (relO_put (fs := []) r1 fun _ => True.intro)
    · rw [upd_ne hd] at z
      refine (I2.hok b ob z).stay (fun c v' hc e => k c v' ?_ e) (fun c hc => ?_) (fun c xs hc => ?_)
      · rcases hc with hc | hc
        · rw [hc]
          exact hb
        · exact at_ne ea hc exo_own
      · rw [upd_ne (at_ne ea hc exo_own), upd_ne (ne_of_none hc nd)]
        exact hc
      · rw [upd_ne (at_ne ea hc exo_tup), upd_ne (ne_of_none hc nd)]
        exact hc
/-- C(..), an own exception class with its own __init__ at fI: a new exception with a field -/
theorem run_x (Z : Fam nB newId nInit iB initId nTail tail) {C fI : Addr} {fd : FuncData} {k : Nat} {f : Str} (T : XC X.K C newId tail) (iC : PySem.W.findIn X.K (.ref C) "__init__" = some (some (.ref fI))) (tI : PySem.W.typeIn X.K (.ref fI) = some (.type "function"))
    (F1 : FnOk X.prog X.w X.K X.mg X.base CX0 k fI fd ["self", f] (spXInit C f)) (hr : Room (k + 1) X.A) {rest : List Value} {kw : List (Str × Value)} {u : Value} {v : V} (sz : rest.length ≤ sizeLine)
    (hb : ∀ (s : Shared) (a : Value), X.K.In s.heap → BindsTo s fd ⟨a :: rest, kw⟩ ((["self", f] : List Str).zip [a, u]))
    {pins : List (Addr × Obj)} {σ : St} {H : Hp} {s : Shared} {Q : VK} (I : Inv X pins σ H s) (r : RelV v u)
    (h : ∀ (e dx : Addr) (H2 : Hp), Same H H2 → H e = none → H dx = none → XAt H2 e C dx f v → Q (.ref e) H2) : wpAny (model X.prog X.w) X.A (call (.ref C) rest kw) (EP X pins σ Q) X.xe s := by
  obtain ⟨nm, q', N, bs, bm, sn, sub, ab, col, dd, k0, k1, k2, k3, k5, cl, up⟩ := T.cls
  obtain ⟨hp, g, d, t, os⟩ := s
  have big : hp.objs.size ≤ hp.objs.size + 1 := Nat.le_succ _
  have n0 : H (hp.objs.size + 1) = none := I.hok.fresh big
  have kk : ∀ b o, hp.get? b = some o → ((hp.push (PySem.W.kdv_tup rest)).push (exNew C hp.objs.size)).get? b = some o := fun b o e => Heap.get?_push_of_some _ (Heap.get?_push_of_some _ e)
  have at0 : ((hp.push (PySem.W.kdv_tup rest)).push (exNew C hp.objs.size)).get? (hp.objs.size + 1) = some (exNew C hp.objs.size) := by heap_get
  have I2 : Inv X pins σ (upd H (hp.objs.size + 1) (exo (hp.objs.size + 1) C none)) ⟨(hp.push (PySem.W.kdv_tup rest)).push (exNew C hp.objs.size), g, d, t, os⟩ :=
    I.laid (t' := t) (a := hp.objs.size + 1) (o := exo (hp.objs.size + 1) C none) (h' := (hp.push (PySem.W.kdv_tup rest)).push (exNew C hp.objs.size)) kk big (exo_ok at0)
  have r2 : Vals [V.ref (hp.objs.size + 1), v] [Value.ref (hp.objs.size + 1), u] := .cons rfl (.cons r .nil)
  have want : spXInit C f [V.ref (hp.objs.size + 1), v] (upd H (hp.objs.size + 1) (exo (hp.objs.size + 1) C none)) (fun x H2 => x = .non ∧ Q (.ref (hp.objs.size + 1)) H2) (fun _ _ _ => False) := by
    refine ⟨_, _, rfl, upd_same, fun dx ndx ne => ?_⟩
    have nd0 : H dx = none := by
      rw [← ndx, upd_ne ne]
    refine ⟨rfl, h _ dx _ (fun b o e => ?_) n0 nd0 ⟨ne, upd_same, ?_⟩⟩
    · rw [upd_ne (ne_of_none e n0), upd_ne (ne_of_none e nd0), upd_ne (ne_of_none e n0)]
      exact e
    · rw [upd_ne ne, upd_same]
  refine wpAny_call (fam_call Z up (I.kIn _ _ cl) (PySem.W.looks_findIn I.kIn iC) (fun self => PySem.W.bind_fn I.kIn self tI) sz
    (codeAny_mono (F1.run _ X.stack _ _ ⟨Value.ref (hp.objs.size + 1) :: rest, kw⟩ [Value.ref (hp.objs.size + 1), u] _ _ (fun _ _ _ => False) (hr.make C rest kw) (I2.env0.make C rest kw) (hb _ _ I2.kIn) r2 want) fun r s' hq => ?_))
  cases r with
  | error er => exact hq.elim
  | ok fl =>
    cases fl with
    | ret u2 =>
      obtain ⟨x, H', I3, rx, ev, q3⟩ := I2.after hq
      subst ev
      exact ⟨rx, ⟨.ref (hp.objs.size + 1), H', I3, rfl, q3⟩⟩
    | next => exact hq.elim
    | brk => exact hq.elim
    | cont => exact hq.elim
/-- the reading of C(e) and C(f = e) -/
def tXMk (C : Addr) (f : Str) (te : TE) : TE := fun σ H Q => te σ H fun v H1 => ∀ (e dx : Addr) (H2 : Hp), Same H1 H2 → H1 e = none → H1 dx = none → XAt H2 e C dx f v → Q (.ref e) H2
theorem pe_xmk (Z : Fam nB newId nInit iB initId nTail tail) {C fI : Addr} {fd : FuncData} {k : Nat} {f x : Str} {e : Expr} {te : TE} {p pos : Pos} (T : XC X.K C newId tail) (iC : PySem.W.findIn X.K (.ref C) "__init__" = some (some (.ref fI)))
    (tI : PySem.W.typeIn X.K (.ref fI) = some (.type "function")) (F1 : FnOk X.prog X.w X.K X.mg X.base CX0 k fI fd ["self", f] (spXInit C f)) (hr : Room (k + 1) X.A) (hb : Binds X.K fd ["self", f] []) (hg : Gl X x) (hm : X.mg x = some (.ref C))
    (he : PE X e te) (hdb : (x == ("__debug__" : Str)) = false := by decide) (hs : starEach [e] X.env = (false, eval e X.env) :: starEach [] X.env := by rfl) :
    PE X (.Call (.Name x p) [e] [] pos) (tXMk C f te) := by
  refine ⟨fun pins s σ H Q I h => ?_⟩
  refine wpAny_Call_Name_kw (ld_glob I hg hm ?_ hdb)
  refine PySem.W.callWith_K (h₀ := X.base) I.ok.mod.kin T.kC ?_ hs (by rfl)
  rw [hs]
  show wpAny _ _ (spliced ((false, eval e X.env) :: backTo pos (starEach [] X.env))) _ _ s
  refine Calls.spliced_cons (thn (he.run pins s σ H _ I h) fun u s1 ⟨v, H1, I1, r1, q1⟩ => ?_)
  refine Calls.spliced_nil ⟨I1.kIn, ?_⟩
  exact run_x Z T iC tI F1 hr (rest := [u]) (kw := []) (by show 1 ≤ sizeLine; decide) (fun s a hK => by
    have z := hb s [a, u] hK rfl
    exact z) I1 r1 q1
theorem pe_xmkN (Z : Fam nB newId nInit iB initId nTail tail) {C fI : Addr} {fd : FuncData} {k : Nat} {f x : Str} {e : Expr} {te : TE} {p pos kpos : Pos} (T : XC X.K C newId tail) (iC : PySem.W.findIn X.K (.ref C) "__init__" = some (some (.ref fI)))
    (tI : PySem.W.typeIn X.K (.ref fI) = some (.type "function")) (F1 : FnOk X.prog X.w X.K X.mg X.base CX0 k fI fd ["self", f] (spXInit C f)) (hr : Room (k + 1) X.A)
    (hb : ∀ (s : Shared) (a u : Value), X.K.In s.heap → BindsTo s fd ⟨[a], [(f, u)]⟩ ((["self", f] : List Str).zip [a, u])) (hg : Gl X x) (hm : X.mg x = some (.ref C))
    (he : PE X e te) (hall : (backToKw pos (keywordEach [⟨some f, e, kpos⟩] X.env)).all (·.1.isSome) = true := by rfl) (hks : (backToKw pos (keywordEach [⟨some f, e, kpos⟩] X.env)).filterMap (·.1) = [f] := by rfl) (hdb : (x == ("__debug__" : Str)) = false := by decide)
    (hpl : ((backTo pos (starEach [] X.env)).any (·.1) || (backToKw pos (keywordEach [⟨some f, e, kpos⟩] X.env)).any (·.1.isNone)) = false := by rfl) :
    PE X (.Call (.Name x p) [] [⟨some f, e, kpos⟩] pos) (tXMk C f te) := by
  refine ⟨fun pins s σ H Q I h => ?_⟩
  refine wpAny_Call_Name_kw (ld_glob I hg hm ?_ hdb)
  refine PySem.W.callWith_KW0 (h₀ := X.base) I.ok.mod.kin T.kC hall ?_ hpl
  refine thn ((pk_cons (nm := some f) (kpos := kpos) he pk_nil).run pos pins s σ H (fun zs H1 => match zs with
    | [v] => ∀ (e dx : Addr) (H2 : Hp), Same H1 H2 → H1 e = none → H1 dx = none → XAt H2 e C dx f v → Q (.ref e) H2
    | _ => False) I h) fun ws s2 ⟨zs, H2, I2, rz, q2⟩ => ⟨I2.kIn, ?_⟩
  rw [hks]
  match zs, rz, q2 with
  | [v], rz, q2 =>
    obtain ⟨u, rfl, rv⟩ := vals1 rz
    exact run_x Z T iC tI F1 hr (rest := []) (kw := [(f, u)]) (Nat.zero_le _) (fun s a hK => hb s a u hK) I2 rv q2
end
end Vk
namespace Vk
open PySem L2
/-- an exception object stands at a: without a dict, or with one -/
inductive XObj (H : Hp) (a C : Addr) : Prop where
  | bare (h : H a = some (ExO (.ref C) a)) : XObj H a C
  | full {dx : Addr} {fs : List (Str × V)} (h : H a = some (exo a C (some dx))) (hd : H dx = some (exd dx fs)) : XObj H a C
theorem XAt.obj {H : Hp} {a C dx : Addr} {f : Str} {v : V} (h : XAt H a C dx f v) : XObj H a C := by
  obtain ⟨_, h1, h2⟩ := h
  exact .full h1 h2
/-- the two facts of every class -/
structure XG (K : PySem.W.Frag) : Prop where
  cn : PySem.W.specialIn K (.builtin "object.__class__") "__get__" = some (some (.builtin "getset_descriptor.__get__"))
  ct : PySem.W.takesIn K (.builtin "object.__class__") = some true
section
variable {X : Cx} {pins : List (Addr × Obj)} {σ : St} {H : Hp} {s : Shared} {newId : String} {tail : List Value}
theorem exd_look {dx : Addr} {fs : List (Str × V)} (I : Inv X pins σ H s) (h : H dx = some (exd dx fs)) : ∃ od, s.heap.get? dx = some od ∧ ∀ f, ∃ m, PySem.W.lookIn f od = some m ∧ RelO (fs.lookup f) m := by
  obtain ⟨mA, hn, hr⟩ := exd_at I.hok h
  obtain ⟨od, ho, hl⟩ := lookIn_ns hn
  exact ⟨od, ho, fun f => ⟨mA f, hl f, hr f⟩⟩
theorem XObj.inst {a C : Addr} (I : Inv X pins σ H s) (h : XObj H a C) : ∃ ox od, PySem.W.InstAt s.heap a ox C od := by
  cases h with
  | bare h =>
    obtain ⟨⟨oe, vs, e, z, d, _⟩, _⟩ := I.hok _ _ h
    exact ⟨oe, none, e, z.1, by unfold PySem.W.notCls; rw [d] <;> rfl, by rw [z.2]; exact True.intro⟩
  | full h hd =>
    obtain ⟨t1, e⟩ := exo_at I.hok h
    obtain ⟨od, ho, _⟩ := exd_look I hd
    exact ⟨_, some od, e, rfl, rfl, ho⟩
theorem call_isX (G : XG X.K) : CallR X (.builtin "isinstance") (fun xs H Q => ∃ (a C : Addr) (nid : String) (tl : List Value) (c : V) (u : Value) (b : Bool), xs = [.ref a, c] ∧ XObj H a C ∧ XC X.K C nid tl ∧ ClsV c u ∧ PySem.W.kitOne X.K (.ref C) u = some b ∧ Q (.bl b) H) := by
  intro pins s σ H xs us Q I r h
  obtain ⟨a, C, nid, tl, c, u, b, rfl, xo, T, k, e, q⟩ := h
  obtain ⟨u1, u2, rfl, r1, r2⟩ := vals2 r
  have e2 := k.eq r2
  subst e2
  obtain rfl : u1 = Value.ref a := r1
  obtain ⟨ox, od, J⟩ := xo.inst I
  have cl : (PySem.W.clsIn X.K C).isSome = true := by
    obtain ⟨nm, q', N, bs, bm, sn, sub, ab, col, dd, k0, k1, k2, k3, k5, cl, up⟩ := T.cls
    unfold PySem.W.clsIn
    rw [cl] <;> rfl
  exact PySem.W.kia_one (PySem.W.kitx_exc (ox := ox) (od := od) cl T.ga T.gg T.exC T.ca G.cn G.ct T.mo) I.kIn J e (fun z => nomatch z) fun tk => ⟨.bl b, H, I.tok tk, rfl, q⟩
/-- e.f, the field of an exception -/
def tXGet (K : PySem.W.Frag) (te : TE) (f : Str) : TE := fun σ H Q => te σ H fun x H1 => ∃ (a C dx : Addr) (nid : String) (tl : List Value) (v : V), x = .ref a ∧ XAt H1 a C dx f v ∧ XC K C nid tl ∧ PySem.W.findIn K (.ref C) f = some none ∧ Q v H1
theorem pe_xget {e : Expr} {te : TE} {f : Str} {pos : Pos} (he : PE X e te) (hb : attributeBase e f X.env (eval e X.env) = eval e X.env := by rfl) : PE X (.Attribute e f pos) (tXGet X.K te f) := by
  refine ⟨fun pins s σ H Q I h => ?_⟩
  refine attr_of hb (thn (he.run pins s σ H _ I h) fun u s1 hh => ?_)
  obtain ⟨x, H1, I1, rx, a, C, dx, nid, tl, v, ex, ⟨_, h1, h2⟩, T, hno, q⟩ := hh
  subst ex
  obtain rfl : u = Value.ref a := rx
  obtain ⟨t1, ea⟩ := exo_at I1.hok h1
  obtain ⟨od, ho, lk⟩ := exd_look I1 h2
  obtain ⟨m, hm, rm⟩ := lk f
  have l : List.lookup f [(f, v)] = some v := by simp [List.lookup]
  rw [l] at rm
  obtain ⟨u, rfl, ru⟩ : ∃ u, m = some u ∧ RelV v u := by
    cases m with
    | none => exact rm.elim
    | some u => exact ⟨u, rfl, rm⟩
  have J : PySem.W.InstAt s1.heap a _ C (some od) := ⟨ea, rfl, rfl, ho⟩
  exact HandSPX.exc_get I1.kIn J T.ga T.gg T.exC (PySem.W.findObj_own T.hd hno rfl hm) (handed_of ru) ⟨v, H1, I1.tok _, ru, q⟩
/-- C(), an own exception class without __init__ -/
theorem pe_xbare {C : Addr} {bmB : List Value} {B nid initId : String} {x : Str} {p pos : Pos} (F : ExcBaseFacts B nid initId bmB) (q : PySem.W.excIn X.K C bmB nid = true) (gC : X.mg x = some (.ref C)) (kC : PySem.W.keepIn X.K (.ref C) = true) (hg : Gl X x)
    (hdb : (x == ("__debug__" : Str)) = false := by decide) : PE X (.Call (.Name x p) [] [] pos) (fun _ H Q => ∀ a, H a = none → Q (.ref a) (upd H a (ExO (.ref C) a))) := by
  refine ⟨fun pins s σ H Q I h => ?_⟩
  refine wpAny_Call_Name_kw (ld_glob I hg gC ?_ hdb)
  refine PySem.W.callWith_K0 I.kIn kC ?_
  show wpAny _ _ (call (.ref C) []) _ _ _
  obtain ⟨bm, N, nm, qn, bs, hdct, sn, sub, ab, col, dd, k0, k1, k2, k3, k5, mN, hC, hN, hni, T⟩ := exc_obj I.kIn q
  refine wpAny_call_exc_subT F T hC hN hni (fun h' a hm => ?_) (Nat.zero_le _)
  have hn : H a = none := I.hok.gone hm.new
  obtain ⟨t, ht, _, _⟩ := hm.there
  exact ⟨.ref a, upd H a (ExO (.ref C) a), I.laidN hm.keeps hm.new hn (exO_ok ht ⟨rfl, rfl⟩ rfl rfl rfl (show 4 < 6 by decide)), rfl, h a hn⟩
/-- what gives a new exception with a dict back makes an exception -/
theorem pmk_retX {e : Expr} {te : TE} (hx : X.ex = []) (he : PE X e te) :
    PMk X e (fun σ H Q => te σ H fun x H1 => ∃ (a C dx : Addr) (fs : List (Str × V)), x = .ref a ∧ H1 a = some (exo a C (some dx)) ∧ H1 dx = some (exd dx fs) ∧ dx ≠ a ∧ Fr0 X.H_0 a ∧ Raises X (.ref C) ∧ Q (.ref C) (some dx) (upd (delH H1 a) dx (.xd fs))) := by
  intro pins s σ H Q I h
  refine wpAny_mono (he.run pins s σ H _ I h) (fun u s1 hu => ?_) fun _ _ x => x
  obtain ⟨v, H1, I1, r1, a, C, dx, fs, rfl, ha, hd, ne, h0, hr, q⟩ := hu
  cases r1
  obtain ⟨t1, ho⟩ := exo_at I1.hok ha
  obtain ⟨G, gs, ga, J⟩ := I1.untrack ha h0 hx
  have hd' : delH H1 a dx = some (exd dx fs) := by
    rw [delH_ne ne]
    exact hd
  obtain ⟨mA, hns, rel⟩ := exd_at J.hok hd'
  have J2 := J.write (t' := s1.toks) (x := dx) (e := dx) (o := .xd fs) (by rw [hd']; exact True.intro) (.inl rfl) (fun b u _ e => e) (by obtain ⟨o, es, ep, e, _⟩ := hns; exact ⟨o, e⟩) ⟨mA, hns, rel⟩
  refine ⟨a, _, _, { s1 with heap := G }, upd (delH H1 a) dx (.xd fs), .ref C, some dx, rfl, J2, gs, ga, ho, ⟨rfl, rfl⟩, rfl, rfl, ?_, rfl, I1.bare, hr, q⟩
  rw [upd_ne ne.symm, delH_same]
end
end Vk
/-! a store; table_of, rows_of, is_change, is_possible -/
namespace Vm
open PySem L2
/-- what is no list stays -/
def NL (H H' : Hp) : Prop := ∀ b o, (∀ xs, o ≠ .lst xs) → H b = some o → H' b = some o
theorem NL.of_same {H H' : Hp} (k : Same H H') : NL H H' := fun b o _ e => k b o e
theorem NL.trans {H H1 H2 : Hp} (a : NL H H1) (b : NL H1 H2) : NL H H2 := fun c o n e => b c o n (a c o n e)
theorem NL.refl (H : Hp) : NL H H := fun _ _ _ e => e
theorem NL.fz {H H' : Hp} (k : NL H H') : Fz H H' := fun b o xs e => k b _ (fun _ q => nomatch q) e
theorem But.nl {s l : Addr} {H H' : Hp} {ms : List Int} {z b : Int} (k : But s l H H') (hs : Src H s l ms z b) : NL H H' := fun c o n e => k _ _ (fun q => by
  rw [q, hs.hs] at e
  exact n _ (Option.some.inj e).symm) (fun q => by
  rw [q, hs.hl] at e
  exact n _ (Option.some.inj e).symm) e
theorem NL.sqT {K : PySem.W.Frag} {H H' : Hp} {a : Addr} {xs : List V} (k : NL H H') (h : SqT K H a xs) : SqT K H' a xs := by
  rcases h with (h | ⟨o, h⟩) | h
  · exact .inl (.inl (k _ _ (fun _ q => nomatch q) h))
  · exact .inl (.inr ⟨o, k _ _ (fun _ q => nomatch q) h⟩)
  · exact .inr h
theorem NL.tupE {K : PySem.W.Frag} {H H' : Hp} {a : Addr} {xs : List V} (k : NL H H') (h : TupE K H a xs) : TupE K H' a xs := by
  rcases h with h | ⟨o, h, d⟩
  · exact .inl h
  · exact .inr ⟨o, k _ _ (fun _ q => nomatch q) h, d⟩
theorem TbAt.nl {K : PySem.W.Frag} {H H' : Hp} {C : Addr} {v : V} {t : Ti} (h : TbAt K H C v t) (k : NL H H') : TbAt K H' C v t := by
  obtain ⟨a, e, ⟨dx, a2, a3, a4, h1, h2, h3, h4⟩, l2, l3, l4⟩ := h
  exact ⟨a, e, ⟨dx, a2, a3, a4, k _ _ (fun _ q => nomatch q) h1, k.tupE h2, k.tupE h3, k.tupE h4⟩, l2, l3, l4⟩
def kvsOf (ts : List Ti) (qs : List Addr) : List (Key × V) := List.zipWith (fun ti q => (Sum.inr ti.nm, V.ref q)) ts qs
abbrev RTups (H : Hp) : List Addr → List (List Row) → Prop := PySem.W.EachIs (RTup H)
/-- a store stands at st: its tables, its rows -/
structure StAt (K : PySem.W.Frag) (H : Hp) (C CT st dx tp rd : Addr) (ws : List V) (ts : List Ti) (qs : List Addr) (rss : List (List Row)) : Prop where
  hs : H st = some (.ins C dx [("_tables", .ref tp), ("_rows", .ref rd)])
  ht : SqT K H tp ws
  tb : TbsAt K H CT ws ts
  hd : H rd = some (.dK (kvsOf ts qs))
  rw : RTups H qs rss
  lq : qs.length = ts.length
  nd : (ts.map Ti.nm).Nodup
  few : ts.length ≤ 3
theorem StAt.nl {K : PySem.W.Frag} {H H' : Hp} {C CT st dx tp rd : Addr} {ws : List V} {ts : List Ti} {qs : List Addr} {rss : List (List Row)} (h : StAt K H C CT st dx tp rd ws ts qs rss) (k : NL H H') : StAt K H' C CT st dx tp rd ws ts qs rss :=
  ⟨k _ _ (fun _ q => nomatch q) h.hs, k.sqT h.ht, h.tb.mono fun _ _ z => z.nl k, k _ _ (fun _ q => nomatch q) h.hd, h.rw.mono fun _ _ z => z.keep k.fz, h.lq, h.nd, h.few⟩
theorem StAt.same {K : PySem.W.Frag} {H H' : Hp} {C CT st dx tp rd : Addr} {ws : List V} {ts : List Ti} {qs : List Addr} {rss : List (List Row)} (h : StAt K H C CT st dx tp rd ws ts qs rss) (k : Same H H') : StAt K H' C CT st dx tp rd ws ts qs rss := h.nl (.of_same k)
/-- an own exception class with one field -/
structure XcT (K : PySem.W.Frag) (mg : Str → Option Value) (x : Str) (C fI : Addr) (nid : String) (tl : List Value) (f : Str) : Prop where
  xc : Vk.XC K C nid tl
  iC : PySem.W.findIn K (.ref C) "__init__" = some (some (.ref fI))
  tI : PySem.W.typeIn K (.ref fI) = some (.type "function")
  g : mg x = some (.ref C)
  no : PySem.W.findIn K (.ref C) f = some none
theorem kvs_find : ∀ {ts : List Ti} {qs : List Addr} {i : Nat} {ti : Ti} {q : Addr}, (ts.map Ti.nm).Nodup → ts[i]? = some ti → qs[i]? = some q → valV (kvsOf ts qs) (Sum.inr ti.nm) = some (V.ref q)
  | [], _, _, _, _, _, e, _ => nomatch e
  | _ :: _, [], _, _, _, _, _, e => nomatch e
  | t :: ts, q' :: qs, 0, ti, q, nd, e1, e2 => by
    obtain rfl := Option.some.inj e1
    obtain rfl := Option.some.inj e2
    exact valV_pos rfl
  | t :: ts, q' :: qs, i + 1, ti, q, nd, e1, e2 => by
    rw [List.map_cons, List.nodup_cons] at nd
    have ne : ¬ (Sum.inr t.nm : Key) = Sum.inr ti.nm := fun e => nd.1 (by
      rw [Sum.inr.inj e]
      exact List.mem_map.mpr ⟨ti, List.mem_of_getElem? e1, rfl⟩)
    show valV ((Sum.inr t.nm, V.ref q') :: kvsOf ts qs) (Sum.inr ti.nm) = some (V.ref q)
    rw [valV_neg ne]
    exact kvs_find nd.2 e1 e2
theorem kvs_other : ∀ {ts : List Ti} {qs : List Addr} {nm : Str} {q' : Addr}, (∀ t ∈ ts, t.nm ≠ nm) → (kvsOf ts qs).map (fun kv => if kv.1 = (Sum.inr nm : Key) then (kv.1, V.ref q') else kv) = kvsOf ts qs
  | [], _, _, _, _ => rfl
  | _ :: _, [], _, _, _ => rfl
  | t :: ts, q :: qs, nm, q', h => by
    have ne : ¬ (Sum.inr t.nm : Key) = Sum.inr nm := fun e => h t List.mem_cons_self (Sum.inr.inj e)
    show (if (Sum.inr t.nm : Key) = Sum.inr nm then ((Sum.inr t.nm : Key), V.ref q') else (Sum.inr t.nm, V.ref q)) :: (kvsOf ts qs).map _ = (Sum.inr t.nm, V.ref q) :: kvsOf ts qs
    rw [if_neg ne, kvs_other fun t m => h t (List.mem_cons_of_mem _ m)]
theorem kvs_put0 : ∀ {ts : List Ti} {qs : List Addr} {i : Nat} {ti : Ti} {q' : Addr}, (ts.map Ti.nm).Nodup → ts[i]? = some ti → (kvsOf ts qs).map (fun kv => if kv.1 = (Sum.inr ti.nm : Key) then (kv.1, V.ref q') else kv) = kvsOf ts (qs.set i q')
  | [], _, _, _, _, _, e => nomatch e
  | _ :: _, [], _, _, _, _, _ => rfl
  | t :: ts, q :: qs, 0, ti, q', nd, e1 => by
    obtain rfl := Option.some.inj e1
    rw [List.map_cons, List.nodup_cons] at nd
    show (if (Sum.inr t.nm : Key) = Sum.inr t.nm then ((Sum.inr t.nm : Key), V.ref q') else (Sum.inr t.nm, V.ref q)) :: (kvsOf ts qs).map _ = (Sum.inr t.nm, V.ref q') :: kvsOf ts qs
    rw [if_pos rfl, kvs_other fun u m e => nd.1 (by
      rw [← e]
      exact List.mem_map.mpr ⟨u, m, rfl⟩)]
  | t :: ts, q :: qs, i + 1, ti, q', nd, e1 => by
    rw [List.map_cons, List.nodup_cons] at nd
    have ne : ¬ (Sum.inr t.nm : Key) = Sum.inr ti.nm := fun e => nd.1 (by
      rw [Sum.inr.inj e]
      exact List.mem_map.mpr ⟨ti, List.mem_of_getElem? e1, rfl⟩)
    show (if (Sum.inr t.nm : Key) = Sum.inr ti.nm then ((Sum.inr t.nm : Key), V.ref q') else (Sum.inr t.nm, V.ref q)) :: (kvsOf ts qs).map _ = (Sum.inr t.nm, V.ref q) :: kvsOf ts (qs.set i q')
    rw [if_neg ne, kvs_put0 nd.2 e1]
theorem kvs_put {ts : List Ti} {qs : List Addr} {i : Nat} {ti : Ti} {q q' : Addr} (nd : (ts.map Ti.nm).Nodup) (e1 : ts[i]? = some ti) (e2 : qs[i]? = some q) : putK (kvsOf ts qs) (Sum.inr ti.nm) (V.ref q') = kvsOf ts (qs.set i q') := by
  unfold putK
  rw [if_pos, kvs_put0 nd e1]
  have := valV_any (Sum.inr ti.nm : Key) (kvsOf ts qs)
  rw [this, kvs_find nd e1 e2]
  rfl
theorem first_nm {ts : List Ti} {i : Nat} {ti : Ti} (nd : (ts.map Ti.nm).Nodup) (e : ts[i]? = some ti) : firstAt ts (.str ti.nm) = some i := by
  unfold firstAt
  obtain ⟨lt, e2⟩ := List.getElem?_eq_some_iff.mp e
  refine List.findIdx?_eq_some_iff_getElem.mpr ⟨lt, by rw [e2]; exact beq_self_eq_true _, fun j hj => ?_⟩
  have hj2 : j < ts.length := Nat.lt_trans hj lt
  have ne : ts[j].nm ≠ ti.nm := fun q => by
    have a : (ts.map Ti.nm)[j]'(by rw [List.length_map]; exact hj2) = (ts.map Ti.nm)[i]'(by rw [List.length_map]; exact lt) := by
      rw [List.getElem_map, List.getElem_map, e2, q]
    have i1 := nd.idxOf_getElem j (by rw [List.length_map]; exact hj2)
    have i2 := nd.idxOf_getElem i (by rw [List.length_map]; exact lt)
    rw [a, i2] at i1
    omega
  show ¬ (ti.nm == ts[j].nm) = true
  rw [beq_eq_false_iff_ne.mpr fun q => ne q.symm]
  decide
theorem first_is {ts : List Ti} {t : Tr} {i : Nat} (h : firstAt ts t = some i) : ∃ ti, ts[i]? = some ti ∧ t = .str ti.nm := by
  unfold firstAt at h
  obtain ⟨lt, e, _⟩ := List.findIdx?_eq_some_iff_getElem.mp h
  refine ⟨ts[i], List.getElem?_eq_getElem lt, ?_⟩
  cases t with
  | str x => exact congrArg Tr.str (beq_iff_eq.mp e)
  | _ => exact nomatch e
/-! the methods -/
def spTableOf (K : PySem.W.Frag) (C CT CU : Addr) : Sp := fun vs H Q E => ∃ (st dx tp rd : Addr) (ws : List V) (ts : List Ti) (qs : List Addr) (rss : List (List Row)) (v : V) (t : Tr) (n : Nat) (bs : List Addr), vs = [.ref st, v] ∧ StAt K H C CT st dx tp rd ws ts qs rss ∧ Dt K H v t n bs ∧
  (∀ i w H', firstAt ts t = some i → ws[i]? = some w → Same H H' → Q w H') ∧ (firstAt ts t = none → ∀ d H', Same H H' → H d = none → H' d = some (.xd [("name", v)]) → E (.ref CU) (some d) H')
def spRowsOf (K : PySem.W.Frag) (C CT CU : Addr) : Sp := fun vs H Q E => ∃ (st dx tp rd : Addr) (ws : List V) (ts : List Ti) (qs : List Addr) (rss : List (List Row)) (v : V) (t : Tr) (n : Nat) (bs : List Addr), vs = [.ref st, v] ∧ StAt K H C CT st dx tp rd ws ts qs rss ∧ Dt K H v t n bs ∧
  (∀ i q H', firstAt ts t = some i → qs[i]? = some q → Same H H' → Q (.ref q) H') ∧ (firstAt ts t = none → ∀ d H', Same H H' → H d = none → H' d = some (.xd [("name", v)]) → E (.ref CU) (some d) H')
def spIsChange (K : PySem.W.Frag) (C CT : Addr) : Sp := fun vs H Q _ => ∃ (st dx tp rd : Addr) (ws : List V) (ts : List Ti) (qs : List Addr) (rss : List (List Row)) (v : V) (t : Tr) (n : Nat) (bs : List Addr), vs = [.ref st, v] ∧ StAt K H C CT st dx tp rd ws ts qs rss ∧ Dt K H v t n bs ∧ t.w ≤ 10000 ∧
  ∀ H', Same H H' → Q (.bl (isChg ts t)) H'
/-- what the written part says of the class Store -/
structure TxtS (K : PySem.W.Frag) (mg : Str → Option Value) (C : Addr) (fTO fRO fIC fIP : Addr) : Prop where
  cl : Cls K C
  nT : NoAttr K C "_tables"
  nR : NoAttr K C "_rows"
  gC : mg "Store" = some (.ref C)
  mTO : Meth K C "table_of" fTO
  mRO : Meth K C "rows_of" fRO
  mIC : Meth K C "is_change" fIC
  mIP : Meth K C "is_possible" fIP
section
variable {P : Program} {w : World} {K : PySem.W.Frag} {mg : Str → Option Value} {base : Heap} {fNm fNms fCols fKey C CT CI CU fIU fTN fTO fRO fIC fIP fCO : Addr}
theorem ok_tableof {f : Addr} {fd fdN fdU : FuncData} (F : Fun K "table_of" "Store.table_of" sTableOf f fd) (S : TxtS K mg C fTO fRO fIC fIP)
    (cN : Calls K mg "table_named" fTN) (GN : FnOk P w K mg base CX0 1 fTN fdN ["name", "tables"] (spNamed K CT)) (bN : Binds K fdN ["name", "tables"] [])
    (U : XcT K mg "UnknownTable" CU fIU "LookupError.__new__" Vk.keT "name") (GU : FnOk P w K mg base CX0 1 fIU fdU ["self", "name"] (Vk.spXInit CU "name")) (bU : Binds K fdU ["self", "name"] []) :
    FnOk P w K mg base (L2.CX P w) 3 f fd ["self", "name"] (spTableOf K C CT CU) := by
  refine F.okX scTableOf (fun vs H Q E h => ?_) (fun cdv A outer s H vs Q E hr h => ?_)
  · obtain ⟨st, dx, tp, rd, ws, ts, qs, rss, v, t, n, bs, rfl, _⟩ := h
    rfl
  · obtain ⟨st, dx, tp, rd, ws, ts, qs, rss, v, t, n, bs, rfl, sa, d, k1, k2⟩ := h
    have hr1 : Room 1 _ := hr.mono (by decide)
    refine ⟨_, pss_cons (ps_set (i := 2) scTableOf.nd rfl (Or.inl rfl) (pe_call GN hr1 rfl cN.g cN.k bN .nil pass0 (pa_cons (pv 1) (pa_cons (pe_fld (pv 0) rfl) pa_nil))))
      (pss_cons (ps_if (pt_cmpR op_isN (pv 2) pe_non (nomark _)) (pss_one (ps_raise rfl (takes_of rfl rfl rfl rfl) (Vk.pmk_retX rfl (Vk.pe_xmk Vk.famK U.xc U.iC U.tI GU hr bU rfl U.g (pv 1))))) pss_nil)
      (pss_one (ps_ret (pv 2)))), ?_⟩
    refine ⟨_, rfl, _, rfl, st, C, dx, _, _, rfl, sa.hs, S.cl, S.nT, rfl, v, t, n, bs, tp, ws, ts, rfl, d, sa.ht, sa.tb, fun i w H2 fi hw s2 => ?_, fun fi H2 s2 => ?_⟩
    · obtain ⟨ti, et, a, rfl, tb⟩ := each_get sa.tb hw
      refine ⟨_, rfl, rfl, _, rfl, ?_⟩
      exact iteF ⟨_, rfl, k1 i _ H2 fi hw s2⟩
    · refine ⟨_, rfl, rfl, _, rfl, ?_⟩
      refine iteT ⟨_, rfl, fun e dx2 H3 s3 ne nd xa => ?_⟩
      refine ⟨e, CU, dx2, _, rfl, xa.2.1, xa.2.2, xa.1, fr0_none (s2.free ne), raises_own U.xc.exC U.xc.tyC, ?_⟩
      refine k2 fi dx2 _ (fun b o q => ?_) (s2.free nd) upd_same
      have q2 := s2 b o q
      rw [upd_ne (ne_of_none q2 nd), delH_ne (ne_of_none q2 ne)]
      exact s3 b o q2
theorem ok_rowsof {f : Addr} {fd fdT : FuncData} (F : Fun K "rows_of" "Store.rows_of" sRowsOf f fd) (S : TxtS K mg C fTO fRO fIC fIP) (UT : TxtT K mg CT CI fCols fKey)
    (GT : FnOk P w K mg base (L2.CX P w) 3 fTO fdT ["self", "name"] (spTableOf K C CT CU)) (bT : Binds K fdT ["self", "name"] []) :
    FnOk P w K mg base (L2.CX P w) 4 f fd ["self", "name"] (spRowsOf K C CT CU) := by
  refine F.okX scRowsOf (fun vs H Q E h => ?_) (fun cdv A outer s H vs Q E hr h => ?_)
  · obtain ⟨st, dx, tp, rd, ws, ts, qs, rss, v, t, n, bs, rfl, _⟩ := h
    rfl
  · obtain ⟨st, dx, tp, rd, ws, ts, qs, rss, v, t, n, bs, rfl, sa, d, k1, k2⟩ := h
    have hu : (A.deeper (PyProof.Rows.envOfC "Store.rows_of" (defScope sRowsOf) s.heap.objs.size f cdv)).units + 1 < cLine := by
      have := hr.units
      omega
    refine ⟨_, pss_one (ps_ret (pe_dget hu (pe_fld (pv 0) rfl) (pe_fld (pe_meth (E := E) (pv 0) S.cl S.mTO GT hr bT .nil (passes_call (takes_of rfl rfl rfl rfl) (fun _ _ _ _ h => h)) (pa_cons (pv 1) pa_nil)) rfl) (fun _ _ => rfl))), ?_⟩
    refine ⟨_, rfl, st, C, dx, _, _, rfl, sa.hs, S.cl, S.nR, rfl, _, rfl, st, dx, _, rfl, sa.hs, rfl, _, rfl, st, dx, tp, rd, ws, ts, qs, rss, v, t, n, bs, rfl, sa, d, fun i w H2 fi hw s2 => ?_, fun fi d' H' s' n' e' => k2 fi d' H' s' n' e'⟩
    obtain ⟨ti, et, a, rfl, tb⟩ := each_get sa.tb hw
    obtain ⟨dx2, a2, a3, a4, ha, _⟩ := (tb.same s2).ex
    have lt : i < qs.length := by
      rw [sa.lq]
      exact (List.getElem?_eq_some_iff.mp et).1
    have eq := List.getElem?_eq_getElem lt
    refine ⟨a, CT, dx2, _, _, rfl, ha, UT.cl, UT.n1, rfl, rd, .ref qs[i], rfl, ?_, k1 i _ H2 fi eq s2⟩
    have g := DGet.k (k := (Sum.inr ti.nm : Key)) (s2 _ _ sa.hd)
    rw [kvs_find sa.nd et eq] at g
    exact g
theorem ok_ischange {f : Addr} {fd fdC : FuncData} (F : Fun K "is_change" "Store.is_change" sIsChange f fd) (S : TxtS K mg C fTO fRO fIC fIP)
    (cC : Calls K mg "is_change_of" fCO) (GC : FnOk P w K mg base CX0 3 fCO fdC ["thing", "tables"] (spChangeOf K CT)) (bC : Binds K fdC ["thing", "tables"] []) :
    FnOk P w K mg base CX0 4 f fd ["self", "thing"] (spIsChange K C CT) := by
  refine F.ok scIsChange (fun vs H Q E h => ?_) (fun cdv A outer s H vs Q E hr h => ?_)
  · obtain ⟨st, dx, tp, rd, ws, ts, qs, rss, v, t, n, bs, rfl, _⟩ := h
    rfl
  · obtain ⟨st, dx, tp, rd, ws, ts, qs, rss, v, t, n, bs, rfl, sa, d, tw, k⟩ := h
    refine ⟨_, pss_one (ps_ret (pe_call GC hr rfl cC.g cC.k bC .nil pass0 (pa_cons (pv 1) (pa_cons (pe_fld (pv 0) rfl) pa_nil)))), ?_⟩
    exact ⟨_, rfl, _, rfl, st, C, dx, _, _, rfl, sa.hs, S.cl, S.nT, rfl, v, t, n, bs, tp, ws, ts, rfl, d, tw, sa.ht, sa.tb, k⟩
end
end Vm
/-! is_possible -/
namespace Vm
open PySem L2
def Cell.ofT : Tr → Option Cell
  | .str x => some (.s x)
  | .int n => some (.i n)
  | _ => none
def toRow : Tr → Row
  | .tup us => us.filterMap Cell.ofT
  | _ => []
theorem ofT_t (c : Cell) : Cell.ofT c.t = some c := by cases c <;> rfl
theorem toRow_rowT (r : Row) : toRow (rowT r) = r := by
  show (r.map Cell.t).filterMap Cell.ofT = r
  rw [List.filterMap_map]
  have e : Cell.ofT ∘ Cell.t = some := by
    funext c
    exact ofT_t c
  rw [e, List.filterMap_some]
theorem rowT_inj {r q : Row} (e : rowT r = rowT q) : r = q := by
  rw [← toRow_rowT r, e, toRow_rowT]
/-- data whose items are names and integers -/
theorem cells_of {K : PySem.W.Frag} {H : Hp} {n : Nat} : ∀ {xs : List V} {us : List Tr} {bs : List Addr}, DtAll K H xs us n bs → (∀ u ∈ us, isNm u = true ∨ isNum u = true) → ∃ r : Row, us = r.map Cell.t ∧ xs = r.map Cell.v
  | _, _, _, .nil, _ => ⟨[], rfl, rfl⟩
  | _, u :: us, _, .cons h t, al => by
    obtain ⟨r, e1, e2⟩ := cells_of t fun u m => al u (List.mem_cons_of_mem _ m)
    rw [e1, e2]
    rcases al u List.mem_cons_self with a | a
    · cases h with
      | str _ _ => exact ⟨.s _ :: r, rfl, rfl⟩
      | _ => exact nomatch a
    · cases h with
      | int _ => exact ⟨.i _ :: r, rfl, rfl⟩
      | _ => exact nomatch a
theorem isRow_row {ti : Ti} {r : Row} (h : isRow ti.ss.length ti.zs.length (rowT r) = true) : Row.ok ti r := by
  have h' : (decide ((r.map Cell.t).length = ti.ss.length + ti.zs.length) && (((r.map Cell.t).take ti.ss.length).all isNm && ((r.map Cell.t).drop ti.ss.length).all isNum)) = true := h
  rw [Bool.and_eq_true, Bool.and_eq_true, decide_eq_true_eq, List.length_map, List.all_eq_true, List.all_eq_true] at h'
  obtain ⟨h1, h2, h3⟩ := h'
  refine ⟨h1, fun i c e => ?_⟩
  have em : (r.map Cell.t)[i]? = some c.t := by
    rw [List.getElem?_map, e]
    rfl
  by_cases lt : i < ti.ss.length
  · rw [decide_eq_true lt]
    have m : c.t ∈ (r.map Cell.t).take ti.ss.length := List.mem_of_getElem? (i := i) (by rw [List.getElem?_take_of_lt lt]; exact em)
    have := h2 _ m
    cases c with
    | s x => exact this
    | i n => exact nomatch this
  · rw [decide_eq_false lt]
    have m : c.t ∈ (r.map Cell.t).drop ti.ss.length := List.mem_of_getElem? (i := i - ti.ss.length) (by rw [List.getElem?_drop, show ti.ss.length + (i - ti.ss.length) = i by omega]; exact em)
    have := h3 _ m
    cases c with
    | s x => exact nomatch this
    | i n => rfl
theorem row_isRow {ti : Ti} {r : Row} (h : Row.ok ti r) : isRow ti.ss.length ti.zs.length (rowT r) = true := by
  show (decide ((r.map Cell.t).length = ti.ss.length + ti.zs.length) && (((r.map Cell.t).take ti.ss.length).all isNm && ((r.map Cell.t).drop ti.ss.length).all isNum)) = true
  rw [Bool.and_eq_true, Bool.and_eq_true, decide_eq_true_eq, List.length_map, List.all_eq_true, List.all_eq_true]
  refine ⟨h.len, fun t m => ?_, fun t m => ?_⟩
  · obtain ⟨i, e⟩ := List.mem_iff_getElem?.mp m
    by_cases lt : i < ti.ss.length
    · rw [List.getElem?_take_of_lt lt, List.getElem?_map] at e
      cases q : r[i]? with
      | none => rw [q] at e; cases e
      | some c =>
        rw [q] at e
        obtain rfl := Option.some.inj e
        have := h.cell i c q
        rw [decide_eq_true lt] at this
        cases c with
        | s x => exact this
        | i n => exact nomatch this
    · rw [List.getElem?_take_eq_none (by omega)] at e
      cases e
  · obtain ⟨i, e⟩ := List.mem_iff_getElem?.mp m
    rw [List.getElem?_drop, List.getElem?_map] at e
    cases q : r[ti.ss.length + i]? with
    | none => rw [q] at e; cases e
    | some c =>
      rw [q] at e
      obtain rfl := Option.some.inj e
      have := h.cell _ c q
      rw [decide_eq_false (by omega)] at this
      cases c with
      | s x => exact nomatch this
      | i n => rfl
/-- data that is a row of the table -/
theorem Dt.row {K : PySem.W.Frag} {H : Hp} {v : V} {t : Tr} {n : Nat} {bs : List Addr} {ti : Ti} (g : ti.ok) (d : Dt K H v t n bs) (h : isRow ti.ss.length ti.zs.length t = true) : ∃ r, RwAt H v r ∧ Row.ok ti r ∧ t = rowT r := by
  have tt : isTup t = true := by cases t <;> first | rfl | exact nomatch h
  obtain ⟨a, xs, ts, m, cs, rfl, rfl, _, te, ds, _⟩ := d.tupD tt
  have h' : (decide (ts.length = ti.ss.length + ti.zs.length) && ((ts.take ti.ss.length).all isNm && (ts.drop ti.ss.length).all isNum)) = true := h
  rw [Bool.and_eq_true, Bool.and_eq_true, decide_eq_true_eq, List.all_eq_true, List.all_eq_true] at h'
  obtain ⟨h1, h2, h3⟩ := h'
  obtain ⟨r, e1, e2⟩ := cells_of ds fun u hu => by
    rw [← List.take_append_drop ti.ss.length ts] at hu
    rcases List.mem_append.mp hu with m | m
    · exact .inl (h2 u m)
    · exact .inr (h3 u m)
  subst e1
  have ok : Row.ok ti r := isRow_row h
  refine ⟨r, ?_, ok, rfl⟩
  subst e2
  rcases te with ⟨e, _⟩ | ⟨o, e, hd⟩
  · have := ok.len
    have l0 := congrArg List.length e
    rw [List.length_map] at l0
    have := g.ne
    rw [List.length_append] at this
    have l1 : ([] : List V).length = 0 := rfl
    omega
  · exact ⟨a, o, rfl, e, hd⟩
theorem rows_of_dt {K : PySem.W.Frag} {H : Hp} {n : Nat} {ti : Ti} (g : ti.ok) : ∀ {xs : List V} {us : List Tr} {bs : List Addr}, DtAll K H xs us n bs → us.all (isRow ti.ss.length ti.zs.length) = true → ∃ rs, RowsAt H xs rs ∧ (∀ r ∈ rs, Row.ok ti r) ∧ us = rs.map rowT
  | _, _, _, .nil, _ => ⟨[], .nil, (fun _ h => nomatch h), rfl⟩
  | _, u :: us, _, .cons h t, al => by
    rw [List.all_cons, Bool.and_eq_true] at al
    obtain ⟨rs, a, b, c⟩ := rows_of_dt g t al.2
    obtain ⟨r, a1, b1, c1⟩ := h.row g al.1
    refine ⟨r :: rs, .cons a1 a, fun q m => ?_, by rw [c, c1]; rfl⟩
    rcases List.mem_cons.mp m with e | m
    · rw [e]
      exact b1
    · exact b q m
/-- whether a change is possible -/
def posL (ts : List Ti) (rss : List (List Row)) : List Tr → Bool
  | .str kd :: nm :: us => (match firstAt ts nm with
    | some i => (match ts[i]?, rss[i]? with
      | some ti, some rs => possR ti kd (us.map toRow) rs
      | _, _ => false)
    | none => false)
  | _ => false
def posT (ts : List Ti) (rss : List (List Row)) : Tr → Bool
  | .tup us => posL ts rss us
  | _ => false
/-- what a change is -/
theorem chg_is {ts : List Ti} {t : Tr} (h : isChg ts t = true) : ∃ kd i ti us, t = .tup (.str kd :: .str ti.nm :: us) ∧ ts[i]? = some ti ∧ firstAt ts (.str ti.nm) = some i ∧ us.all (isRow ti.ss.length ti.zs.length) = true ∧ lenV kd = .int ((us.length + 2 : Nat) : Int) ∧ 0 < us.length := by
  cases t with
  | tup l =>
    have h1 : chgL ts l = true := h
    match l, h1 with
    | k :: nm :: r :: rs, h1 =>
      have h2 : chgK ts nm (r :: rs) k = true := h1
      cases k with
      | str kd =>
        have h3 : (decide (lenV kd = .int (((r :: rs).length + 2 : Nat) : Int)) && rowsOk ts nm (r :: rs)) = true := h2
        rw [Bool.and_eq_true, decide_eq_true_eq] at h3
        obtain ⟨h4, h5⟩ := h3
        unfold rowsOk at h5
        cases fi : firstAt ts nm with
        | none => rw [fi] at h5; cases h5
        | some i =>
          rw [fi] at h5
          obtain ⟨ti, et, rfl⟩ := first_is fi
          have h6 : (match ts[i]? with | some ti => (r :: rs).all (isRow ti.ss.length ti.zs.length) | none => false) = true := h5
          rw [et] at h6
          exact ⟨kd, i, ti, r :: rs, rfl, et, fi, h6, h4, Nat.succ_pos _⟩
      | _ => exact nomatch h2
  | _ => exact nomatch h
theorem lenV_le {kd : Str} {n : Nat} (h : lenV kd = .int ((n + 2 : Nat) : Int)) : n ≤ 2 ∧ (n = 1 ∨ n = 2) := by
  unfold lenV at h
  split at h
  · have := V.int.inj h
    omega
  · split at h
    · have := V.int.inj h
      omega
    · split at h
      · have := V.int.inj h
        omega
      · cases h
end Vm
/-! is_possible, do -/
namespace Vm
open PySem L2
/-- the rows of each table fit -/
def Fit (N : Nat) (ts : List Ti) (rss : List (List Row)) : Prop := ∀ (i : Nat) (ti : Ti) (rs : List Row), ts[i]? = some ti → rss[i]? = some rs → ti.ok ∧ (∀ r ∈ rs, Row.ok ti r) ∧ rs.length ≤ N
def spIsPossible (K : PySem.W.Frag) (C CT CIC : Addr) : Sp := fun vs H Q E => ∃ (N : Nat) (st dx tp rd : Addr) (ws : List V) (ts : List Ti) (qs : List Addr) (rss : List (List Row)) (v : V) (t : Tr) (n : Nat) (bs : List Addr), vs = [.ref st, v] ∧ StAt K H C CT st dx tp rd ws ts qs rss ∧ Dt K H v t n bs ∧ t.w ≤ 10000 ∧ Fit N ts rss ∧ N ≤ 90 ∧
  (isChg ts t = true → ∀ H', Same H H' → Q (.bl (posT ts rss t)) H') ∧ (isChg ts t = false → ∀ d H', Same H H' → H d = none → H' d = some (.xd [("change", v)]) → E (.ref CIC) (some d) H')
/-- a change, as it lies -/
theorem chg_at {K : PySem.W.Frag} {H : Hp} {v : V} {t : Tr} {n : Nat} {bs : List Addr} {ts : List Ti} {rss : List (List Row)} {N : Nat} (fit : Fit N ts rss) (lr : rss.length = ts.length) (d : Dt K H v t n bs) (h : isChg ts t = true) :
    ∃ (p : Addr) (kd : Str) (i : Nat) (ti : Ti) (xs : List V) (us rs : List Row), v = .ref p ∧ t = .tup (.str kd :: .str ti.nm :: us.map rowT) ∧ SqT K H p (.str kd :: .str ti.nm :: xs) ∧ RowsAt H xs us ∧ ts[i]? = some ti ∧ rss[i]? = some rs ∧ firstAt ts (.str ti.nm) = some i ∧
      (∀ r ∈ us, Row.ok ti r) ∧ lenV kd = .int ((us.length + 2 : Nat) : Int) ∧ (us.length = 1 ∨ us.length = 2) ∧ posT ts rss t = possR ti kd us rs ∧ ∃ m cs, Dt K H (.str ti.nm) (.str ti.nm) m cs := by
  obtain ⟨kd, i, ti, us, rfl, et, fi, al, hl, u0⟩ := chg_is h
  obtain ⟨a, xs, ts', m, cs, rfl, e1, _, te, ds, _⟩ := d.tupD rfl
  obtain rfl := Tr.tup.inj e1
  cases ds with
  | cons d1 ds =>
  cases ds with
  | cons d2 ds =>
  rename_i c1 _ c2 c3
  cases d1
  have dn : ∃ m cs, Dt K H (.str ti.nm) (.str ti.nm) m cs := by
    cases d2 with
    | str h hz => exact ⟨0, [], .str h hz⟩
  cases d2
  have lt : i < rss.length := by
    rw [lr]
    exact (List.getElem?_eq_some_iff.mp et).1
  have er := List.getElem?_eq_getElem lt
  obtain ⟨g, _, _⟩ := fit i ti _ et er
  obtain ⟨rs, ra, ro, e⟩ := rows_of_dt g ds al
  have ll : us.length = rs.length := by rw [e, List.length_map]
  refine ⟨a, kd, i, ti, _, rs, rss[i], rfl, by rw [e], te.sq, ra, et, er, fi, ro, by rw [← ll]; exact hl, ?_, ?_, dn⟩
  · rw [← ll]
    exact (lenV_le hl).2
  · show (match firstAt ts (.str ti.nm) with | some i => (match ts[i]?, rss[i]? with | some ti, some rs => possR ti kd (us.map toRow) rs | _, _ => false) | none => false) = _
    rw [fi]
    show (match ts[i]?, rss[i]? with | some ti, some rs => possR ti kd (us.map toRow) rs | _, _ => false) = _
    rw [et, er]
    show possR ti kd (us.map toRow) rss[i] = _
    rw [e, List.map_map]
    have : toRow ∘ rowT = id := by
      funext r
      exact toRow_rowT r
    rw [this, List.map_id]
section
variable {P : Program} {w : World} {K : PySem.W.Frag} {mg : Str → Option Value} {base : Heap} {fNm fNms fCols fKey C CT CI CU CIC fIU fII fTN fTO fRO fIC fIP fPI fAf : Addr}
theorem ok_ispossible {f : Addr} {fd fdC fdT fdR fdP fdI : FuncData} (F : Fun K "is_possible" "Store.is_possible" sIsPossible f fd) (S : TxtS K mg C fTO fRO fIC fIP)
    (GC : FnOk P w K mg base CX0 4 fIC fdC ["self", "thing"] (spIsChange K C CT)) (bC : Binds K fdC ["self", "thing"] [])
    (GT : FnOk P w K mg base (L2.CX P w) 3 fTO fdT ["self", "name"] (spTableOf K C CT CU)) (bT : Binds K fdT ["self", "name"] [])
    (GR : FnOk P w K mg base (L2.CX P w) 4 fRO fdR ["self", "name"] (spRowsOf K C CT CU)) (bR : Binds K fdR ["self", "name"] [])
    (cP : Calls K mg "is_possible_in" fPI) (GP : FnOk P w K mg base CX0 5 fPI fdP ["change", "table", "rows"] (spPossIn K CT)) (bP : Binds K fdP ["change", "table", "rows"] [])
    (U : XcT K mg "InvalidChange" CIC fII "ValueError.__new__" Vk.veT "change") (GI : FnOk P w K mg base CX0 1 fII fdI ["self", "change"] (Vk.spXInit CIC "change")) (bI : Binds K fdI ["self", "change"] []) :
    FnOk P w K mg base (L2.CX P w) 6 f fd ["self", "change"] (spIsPossible K C CT CIC) := by
  refine F.okX scIsPossible (fun vs H Q E h => ?_) (fun cdv A outer s H vs Q E hr h => ?_)
  · obtain ⟨N, st, dx, tp, rd, ws, ts, qs, rss, v, t, n, bs, rfl, _⟩ := h
    rfl
  · obtain ⟨N, st, dx, tp, rd, ws, ts, qs, rss, v, t, n, bs, rfl, sa, d, tw, fit, N90, k1, k2⟩ := h
    have hr2 : Room 2 _ := hr.mono (by decide)
    have hr3 : Room 3 _ := hr.mono (by decide)
    have hr4 : Room 4 _ := hr.mono (by decide)
    refine ⟨_, pss_cons (ps_if (pt_not (pt_val (pe_meth (pv 0) S.cl S.mIC GC hr4 bC .nil pass0 (pa_cons (pv 1) pa_nil)))) (pss_one (ps_raise rfl (takes_of rfl rfl rfl rfl) (Vk.pmk_retX rfl (Vk.pe_xmk Vk.famV U.xc U.iC U.tI GI hr2 bI rfl U.g (pv 1))))) pss_nil)
      (pss_cons (ps_set (i := 2) scIsPossible.nd rfl (Or.inl rfl) (pe_ix ix_tup (pv 1) pe_int (fun _ _ => rfl)))
      (pss_one (ps_ret (pe_call GP hr rfl cP.g cP.k bP .nil pass0 (pa_cons (pv 1)
        (pa_cons (pe_meth (E := E) (pv 0) S.cl S.mTO GT hr3 bT .nil (passes_call (takes_of rfl rfl rfl rfl) (fun _ _ _ _ h => h)) (pa_cons (pv 2) pa_nil))
        (pa_cons (pe_meth (E := E) (pv 0) S.cl S.mRO GR hr4 bR .nil (passes_call (takes_of rfl rfl rfl rfl) (fun _ _ _ _ h => h)) (pa_cons (pv 2) pa_nil)) pa_nil))))))), ?_⟩
    have meth : ∀ {H'}, Same H H' → H' st = some (.ins C dx [("_tables", .ref tp), ("_rows", .ref rd)]) := fun s' => s' _ _ sa.hs
    refine ⟨_, rfl, st, dx, _, rfl, sa.hs, rfl, _, rfl, st, dx, tp, rd, ws, ts, qs, rss, v, t, n, bs, rfl, sa, d, tw, fun H1 s1 => ⟨_, rfl, ?_⟩⟩
    cases hc : isChg ts t with
    | false =>
      refine iteT ⟨_, rfl, fun e dx2 H3 s3 ne nd xa => ?_⟩
      refine ⟨e, CIC, dx2, _, rfl, xa.2.1, xa.2.2, xa.1, fr0_none (s1.free ne), raises_own U.xc.exC U.xc.tyC, ?_⟩
      refine k2 hc dx2 _ (fun b o q => ?_) (s1.free nd) upd_same
      have q2 := s1 b o q
      rw [upd_ne (ne_of_none q2 nd), delH_ne (ne_of_none q2 ne)]
      exact s3 b o q2
    | true =>
      refine iteF ?_
      have k1 := k1 hc
      have lrw : rss.length = ts.length := by rw [← sa.rw.length, sa.lq]
      obtain ⟨p, kd, i, ti, xs, us, rs, rfl, et', hp, hxs, et, er, fi, o1, hl, l12, pe, m, cs, dn⟩ := chg_at fit lrw d hc
      rw [pe] at k1
      obtain ⟨g, o2, few⟩ := fit i ti rs et er
      have lt : i < ws.length := by
        rw [sa.tb.length]
        exact (List.getElem?_eq_some_iff.mp et).1
      have ew := List.getElem?_eq_getElem lt
      have lq : i < qs.length := by
        rw [sa.lq]
        exact (List.getElem?_eq_some_iff.mp et).1
      have eq := List.getElem?_eq_getElem lq
      obtain ⟨ti', et2, a, ea, tb⟩ := each_get sa.tb ew
      rw [et] at et2
      obtain rfl := Option.some.inj et2
      obtain ⟨rs', er2, ob, ys, hq, hd, hys⟩ := each_get sa.rw eq
      rw [er] at er2
      obtain rfl := Option.some.inj er2
      refine ⟨_, rfl, p, _, ((1 : Nat) : Int), .str ti.nm, rfl, rfl, sameT s1 hp, atI_nat rfl, ?_⟩
      refine ⟨_, rfl, _, rfl, st, dx, _, rfl, meth s1, rfl, _, rfl, st, dx, tp, rd, ws, ts, qs, rss, .str ti.nm, .str ti.nm, m, cs, rfl, sa.same s1, dn.keep (fun b _ o e => s1 b o e), fun i2 w2 H2 fi2 ew2 s2 => ?_, fun fi2 => by rw [fi] at fi2; cases fi2⟩
      rw [fi] at fi2
      obtain rfl := Option.some.inj fi2
      rw [ew] at ew2
      obtain rfl := Option.some.inj ew2
      have s12 := s1.trans s2
      refine ⟨_, rfl, st, dx, _, rfl, meth s12, rfl, _, rfl, st, dx, tp, rd, ws, ts, qs, rss, .str ti.nm, .str ti.nm, m, cs, rfl, sa.same s12, dn.keep (fun b _ o e => s12 b o e), fun i3 q3 H3 fi3 eq3 s3 => ?_, fun fi3 => by rw [fi] at fi3; cases fi3⟩
      rw [fi] at fi3
      obtain rfl := Option.some.inj fi3
      rw [eq] at eq3
      obtain rfl := Option.some.inj eq3
      have s13 := s12.trans s3
      rw [ea]
      exact ⟨p, a, _, kd, .str ti.nm, xs, ys, us, rs, ti, rfl, sameT s13 hp, hxs.keep (.of_same s13), tb.same s13, .inl (.inr ⟨ob, s13 _ _ hq⟩), hys.keep (.of_same s13), o1, o2, by omega, by omega, fun H4 s4 => k1 H4 (s13.trans s4)⟩
end
end Vm
/-! do -/
namespace Vm
open PySem L2 StX
/-! data of tuples, texts, integers alone: it stays where tuples stay -/
mutual
def pureT : Tr → Bool
  | .lst _ => false
  | .dct _ _ => false
  | .tup ts => pureTs ts
  | _ => true
def pureTs : List Tr → Bool
  | [] => true
  | t :: r => pureT t && pureTs r
end
mutual
theorem Dt.fz {K : PySem.W.Frag} {H H' : Hp} (k : Fz H H') : ∀ {v : V} {t : Tr} {n : Nat} {bs : List Addr}, Dt K H v t n bs → pureT t = true → Dt K H' v t n bs
  | _, _, _, _, .non, _ => .non
  | _, _, _, _, .bl b, _ => .bl b
  | _, _, _, _, .int h, _ => .int h
  | _, _, _, _, .str h hz, _ => .str h hz
  | _, _, _, _, .lst h r na, p => nomatch p
  | _, _, _, _, .emp h, _ => .emp h
  | _, _, _, _, .tup h nd r na, p => .tup (k _ _ _ h) nd (DtAll.fz k r p) na
  | _, _, _, _, .dct h kf r na, p => nomatch p
theorem DtAll.fz {K : PySem.W.Frag} {H H' : Hp} (k : Fz H H') : ∀ {v : List V} {t : List Tr} {n : Nat} {bs : List Addr}, DtAll K H v t n bs → pureTs t = true → DtAll K H' v t n bs
  | _, _, _, _, .nil, _ => .nil
  | _, t :: ts, _, _, .cons h r, p => by
    have p' : (pureT t && pureTs ts) = true := p
    rw [Bool.and_eq_true] at p'
    exact .cons (h.fz k p'.1) (r.fz k p'.2)
end
theorem pure_cells : ∀ r : Row, pureTs (r.map Cell.t) = true
  | [] => rfl
  | .s x :: r => by
    show (true && pureTs (r.map Cell.t)) = true
    rw [pure_cells r]
    rfl
  | .i x :: r => by
    show (true && pureTs (r.map Cell.t)) = true
    rw [pure_cells r]
    rfl
theorem pure_row (r : Row) : pureT (rowT r) = true := pure_cells r
theorem pure_rows : ∀ rs : List Row, pureTs (rs.map rowT) = true
  | [] => rfl
  | r :: rs => by
    show (pureT (rowT r) && pureTs (rs.map rowT)) = true
    rw [pure_row, pure_rows rs]
    rfl
/-- the tables' rows behind a change -/
def stepL (ts : List Ti) (rss : List (List Row)) : List Tr → List (List Row)
  | .str kd :: nm :: us => (match firstAt ts nm with
    | some i => (match rss[i]? with
      | some rs => rss.set i (afterR kd (us.map toRow) rs)
      | none => rss)
    | none => rss)
  | _ => rss
def stepT (ts : List Ti) (rss : List (List Row)) (t : Tr) : List (List Row) := if posT ts rss t then (match t with
  | .tup us => stepL ts rss us
  | _ => rss) else rss
def stepsT (ts : List Ti) (rss : List (List Row)) (us : List Tr) : List (List Row) := us.foldl (stepT ts) rss
def boolsT (ts : List Ti) (rss : List (List Row)) : List Tr → List Bool
  | [] => []
  | t :: r => posT ts rss t :: boolsT ts (stepT ts rss t) r
theorem bools_snoc (ts : List Ti) (t : Tr) : ∀ (us : List Tr) (rss : List (List Row)), boolsT ts rss (us ++ [t]) = boolsT ts rss us ++ [posT ts (stepsT ts rss us) t]
  | [], _ => rfl
  | u :: us, rss => by
    show posT ts rss u :: boolsT ts (stepT ts rss u) (us ++ [t]) = posT ts rss u :: (boolsT ts (stepT ts rss u) us ++ [posT ts (stepsT ts (stepT ts rss u) us) t])
    rw [bools_snoc ts t us]
theorem steps_snoc (ts : List Ti) (t : Tr) (us : List Tr) (rss : List (List Row)) : stepsT ts rss (us ++ [t]) = stepT ts (stepsT ts rss us) t := by
  unfold stepsT
  rw [List.foldl_append]
  rfl
theorem bools_len (ts : List Ti) : ∀ (us : List Tr) (rss : List (List Row)), (boolsT ts rss us).length = us.length
  | [], _ => rfl
  | u :: us, rss => congrArg (· + 1) (bools_len ts us (stepT ts rss u))
/-- all but the store's dict of rows stands as before -/
def Du (rd : Addr) (H H' : Hp) : Prop := ∀ b o, b ≠ rd → H b = some o → H' b = some o
theorem Du.of_same {rd : Addr} {H H' : Hp} (k : Same H H') : Du rd H H' := fun b o _ e => k b o e
theorem Du.trans {rd : Addr} {H H1 H2 : Hp} (a : Du rd H H1) (b : Du rd H1 H2) : Du rd H H2 := fun c o n e => b c o n (a c o n e)
theorem Du.fz {rd : Addr} {H H' : Hp} {kvs : List (Key × V)} (k : Du rd H H') (h : H rd = some (.dK kvs)) : Fz H H' := fun b o xs e => k b _ (fun q => by
  rw [q, h] at e
  cases e) e
/-- a method's call, its promise by position -/
def tMethR (C : Addr) (m : Str) (sp : Sp) (E : XK) (ta : TE) (t : TA) : TE := fun σ H Q => ta σ H fun x H1 => ∃ (a dx : Addr) (fs : List (Str × V)), x = .ref a ∧ H1 a = some (.ins C dx fs) ∧ fs.lookup m = none ∧ t σ H1 fun vs H2 => sp (.ref a :: vs) H2 Q E
section
variable {X : Cx} {CX : CXT} {k : Nat} {f C : Addr} {sp : Sp} {E : XK} {m : Str} {pos apos : Pos} {o e : Expr} {es : List Expr} {ta : TE} {t : TA}
theorem pe_methR {pl : Sem Bool} (he : PE X o ta) (c : Cls X.K C) (hm : Meth X.K C m f) (F : FnR X.prog X.w X.K X.mg X.base CX k f sp) (hr : Room k X.A) (hx : Passes CX X E) (ha : PA X (e :: es) t)
    (hst : starEach (e :: es) X.env = (false, eval e X.env) :: starEach es X.env := by rfl) (hpl : (backTo pos (starEach es X.env)).any (·.1) = false := by rfl)
    (ht : eval (.Call (.Attribute o m apos) (e :: es) [] pos) X.env = (do
      let ov ← eval o X.env
      standAt apos.atName
      let (f, first) ← holding [ov] (getMethod ov m pl)
      callWith pos f first (backTo pos (starEach (e :: es) X.env)) (backToKw pos (keywordEach [] X.env))) := by rfl) :
    PE X (.Call (.Attribute o m apos) (e :: es) [] pos) (tMethR C m sp E ta t) := by
  refine ⟨fun pins s σ H Q I h => ?_⟩
  refine PySem.W.methodCall_KW (pl := pl) (thn (he.run pins s σ H _ I h) fun u s1 ⟨x, H1, I1, rx, a, dx, fs, ex, ea, l, q⟩ => ?_) ht
  subst ex
  obtain rfl : u = Value.ref a := rx
  refine getmeth_ok I1 ea c hm l ?_
  refine PySem.W.callWith_K (first := [.ref a]) (h₀ := X.base) I.ok.mod.kin hm.kp (thn (ha.run pos pins s1 σ H1 _ I1 q) fun us s2 ⟨vs, H2, I2, r, q2⟩ => ⟨I2.kIn, ?_⟩) hst hpl
  exact wpAny_call (run_fnR (us := .ref a :: us) (vs := .ref a :: vs) F hr hx I2 (.cons rfl r) q2)
end
end Vm
namespace Vm
open PySem L2 StX
theorem pure_names : ∀ {us : List Tr}, (∀ u ∈ us, isNm u = true ∨ isNum u = true) → pureTs us = true
  | [], _ => rfl
  | u :: us, h => by
    show (pureT u && pureTs us) = true
    rw [pure_names fun x m => h x (List.mem_cons_of_mem _ m), Bool.and_true]
    rcases h u List.mem_cons_self with a | a <;> cases u <;> first | rfl | exact nomatch a
theorem isRow_pure {a b : Nat} {t : Tr} (h : isRow a b t = true) : pureT t = true := by
  cases t with
  | tup ts =>
    have h' : (decide (ts.length = a + b) && ((ts.take a).all isNm && (ts.drop a).all isNum)) = true := h
    rw [Bool.and_eq_true, Bool.and_eq_true, decide_eq_true_eq, List.all_eq_true, List.all_eq_true] at h'
    obtain ⟨h1, h2, h3⟩ := h'
    show pureTs ts = true
    refine pure_names fun u hu => ?_
    rw [← List.take_append_drop a ts] at hu
    rcases List.mem_append.mp hu with m | m
    · exact .inl (h2 u m)
    · exact .inr (h3 u m)
  | _ => exact nomatch h
theorem pure_all : ∀ {us : List Tr}, (∀ u ∈ us, pureT u = true) → pureTs us = true
  | [], _ => rfl
  | u :: us, h => by
    show (pureT u && pureTs us) = true
    rw [h u List.mem_cons_self, pure_all fun x m => h x (List.mem_cons_of_mem _ m)]
    rfl
theorem chg_pure {ts : List Ti} {t : Tr} (h : isChg ts t = true) : pureT t = true := by
  obtain ⟨kd, i, ti, us, rfl, _, _, al, _⟩ := chg_is h
  show pureTs us = true
  refine pure_all fun u m => isRow_pure (List.all_eq_true.mp al u m)
theorem poss_true {ti : Ti} {kd : Str} {us rs : List Row} (h : possR ti kd us rs = true) : True := trivial
theorem after_len {kd : Str} {us rs : List Row} (h : lenV kd = .int ((us.length + 2 : Nat) : Int)) : (afterR kd us rs).length ≤ rs.length + 1 := by
  unfold afterR
  rw [(sortR_perm _).length_eq, List.length_append]
  have a : (leftR kd us rs).length ≤ rs.length := List.length_filter_le _ _
  have b : (putR kd us).length ≤ 1 := by
    have l2 := (lenV_le h).2
    unfold putR
    by_cases e : kd = insS
    · rw [if_pos e]
      unfold lenV at h
      rw [if_pos e] at h
      have := V.int.inj h
      omega
    · rw [if_neg e, List.length_drop]
      omega
  omega
theorem step_is {ts : List Ti} {rss : List (List Row)} {i : Nat} {ti : Ti} {kd : Str} {us rs : List Row} {t : Tr} (et : t = .tup (.str kd :: .str ti.nm :: us.map rowT)) (fi : firstAt ts (.str ti.nm) = some i) (er : rss[i]? = some rs) (h : posT ts rss t = true) : stepT ts rss t = rss.set i (afterR kd us rs) := by
  unfold stepT
  rw [if_pos h, et]
  show (match firstAt ts (.str ti.nm) with | some i => (match rss[i]? with | some rs => rss.set i (afterR kd ((us.map rowT).map toRow) rs) | none => rss) | none => rss) = _
  rw [fi]
  show (match rss[i]? with | some rs => rss.set i (afterR kd ((us.map rowT).map toRow) rs) | none => rss) = _
  rw [er]
  show rss.set i (afterR kd ((us.map rowT).map toRow) rs) = _
  rw [List.map_map]
  have : toRow ∘ rowT = id := by
    funext r
    exact toRow_rowT r
  rw [this, List.map_id]
theorem step_no {ts : List Ti} {rss : List (List Row)} {t : Tr} (h : posT ts rss t = false) : stepT ts rss t = rss := by
  unfold stepT
  rw [if_neg (by rw [h]; decide)]
theorem Fit.up {N M : Nat} {ts : List Ti} {rss : List (List Row)} (h : Fit N ts rss) (l : N ≤ M) : Fit M ts rss := fun i ti rs a b => let ⟨x, y, z⟩ := h i ti rs a b; ⟨x, y, Nat.le_trans z l⟩
theorem Fit.set {N : Nat} {ts : List Ti} {rss : List (List Row)} {i : Nat} {ti : Ti} {rs : List Row} (h : Fit N ts rss) (et : ts[i]? = some ti) (hr : ∀ r ∈ rs, Row.ok ti r) (hl : rs.length ≤ N + 1) : Fit (N + 1) ts (rss.set i rs) := by
  intro j tj rj a b
  rw [List.getElem?_set] at b
  split at b
  · rename_i e
    subst e
    split at b
    · obtain rfl := Option.some.inj b
      rw [et] at a
      obtain rfl := Option.some.inj a
      have lt := (List.getElem?_eq_some_iff.mp et).1
      rename_i lr
      obtain ⟨x, _, _⟩ := h i ti rss[i] et (List.getElem?_eq_getElem lr)
      exact ⟨x, hr, hl⟩
    · cases b
  · obtain ⟨x, y, z⟩ := h j tj rj a b
    exact ⟨x, y, Nat.le_succ_of_le z⟩
theorem after_ok {ti : Ti} {kd : Str} {us rs : List Row} (o1 : ∀ r ∈ us, Row.ok ti r) (o2 : ∀ r ∈ rs, Row.ok ti r) : ∀ r ∈ afterR kd us rs, Row.ok ti r := fun r m => by
  have m' := (sortR_perm _).mem_iff.mp m
  rcases List.mem_append.mp m' with m | m
  · exact o2 r (List.mem_filter.mp m).1
  · exact o1 r (put_sub m)
def spDo (K : PySem.W.Frag) (C CT CIC : Addr) : Sp := fun vs H Q E => ∃ (N : Nat) (st dx tp rd p : Addr) (ws : List V) (ts : List Ti) (qs : List Addr) (rss : List (List Row)) (xs : List V) (us : List Tr), vs = [.ref st, .ref p] ∧ StAt K H C CT st dx tp rd ws ts qs rss ∧ SqT K H p xs ∧
  PySem.W.EachIs (fun v t => (∃ n bs, Dt K H v t n bs) ∧ t.w ≤ 10000) xs us ∧ us.length ≤ 20 ∧ Fit N ts rss ∧ N + us.length ≤ 90 ∧
  ((∀ t ∈ us, isChg ts t = true) → ∀ H' q qs', Du rd H H' → H q = none → (∃ o : Obj, H' q = some (.frz o (.tup ((boolsT ts rss us).map V.bl))) ∧ o.dict = none) → StAt K H' C CT st dx tp rd ws ts qs' (stepsT ts rss us) → Fit (N + us.length) ts (stepsT ts rss us) → Q (.ref q) H') ∧
  (∀ (i : Nat) v t, xs[i]? = some v → us[i]? = some t → isChg ts t = false → (∀ j, j < i → ∀ tj, us[j]? = some tj → isChg ts tj = true) → ∀ d H', Same H H' → H d = none → H' d = some (.xd [("change", v)]) → E (.ref CIC) (some d) H')
section
variable {P : Program} {w : World} {K : PySem.W.Frag} {mg : Str → Option Value} {base : Heap} {fNm fNms fCols fKey C CT CI CU CIC fIU fII fTN fTO fRO fIC fIP fPI fAf : Addr}
theorem ok_do {f : Addr} {fd fdC fdR fdP fdA fdI : FuncData} (F : Fun K "do" "Store.do" sDo f fd) (S : TxtS K mg C fTO fRO fIC fIP) (tuple : mg "tuple" = none)
    (GC : FnOk P w K mg base CX0 4 fIC fdC ["self", "thing"] (spIsChange K C CT)) (bC : Binds K fdC ["self", "thing"] [])
    (GR : FnOk P w K mg base (L2.CX P w) 4 fRO fdR ["self", "name"] (spRowsOf K C CT CU)) (bR : Binds K fdR ["self", "name"] [])
    (GP : FnOk P w K mg base (L2.CX P w) 6 fIP fdP ["self", "change"] (spIsPossible K C CT CIC)) (bP : Binds K fdP ["self", "change"] [])
    (cA : Calls K mg "rows_after" fAf) (GA : FnOk P w K mg base CX0 2 fAf fdA ["change", "rows"] (spAfter K)) (bA : Binds K fdA ["change", "rows"] [])
    (U : XcT K mg "InvalidChange" CIC fII "ValueError.__new__" Vk.veT "change") (GI : FnOk P w K mg base CX0 1 fII fdI ["self", "change"] (Vk.spXInit CIC "change")) (bI : Binds K fdI ["self", "change"] []) :
    FnR P w K mg base (L2.CX P w) 7 f (fun vs H Q E => ∃ ws rest, vs = ws ++ rest ∧ ws.length = (["self"] : List Str).length ∧ rest.length ≤ sizeLine ∧ ∀ p, H p = Option.none → spDo K C CT CIC (ws ++ [V.ref p]) (upd H p (.tup rest)) Q E) := by
  refine Fun.star F scDo cxUp bind_do (fun cdv A outer s H vs Q E hr h => ?_)
  obtain ⟨N, st, dx, tp, rd, p, ws, ts, qs, rss, xs, us, rfl, sa, hp, hxs, lu, fit, N90, k1, k2⟩ := h
  have hr2 : Room 2 _ := hr.mono (by decide)
  have hr4 : Room 4 _ := hr.mono (by decide)
  have hu : (A.deeper (PyProof.Rows.envOfC "Store.do" (defScope sDo) s.heap.objs.size f cdv)).units + 1 < cLine := by
    have := hr.units
    omega
  refine ⟨_, pss_cons (ps_for PassesOwn.leaving rfl (pi_tup (pv 1)) (pg_name (i := 2) scDo.nd rfl (Or.inl rfl))
        (pss_one (ps_if (pt_not (pt_val (pe_meth (pv 0) S.cl S.mIC GC hr4 bC .nil pass0 (pa_cons (pv 2) pa_nil)))) (pss_one (ps_raise rfl (takes_of rfl rfl rfl rfl) (Vk.pmk_retX rfl (Vk.pe_xmk Vk.famV U.xc U.iC U.tI GI hr2 bI rfl U.g (pv 2))))) pss_nil)))
      (pss_cons (ps_set (i := 3) scDo.nd rfl (Or.inl rfl) (pe_lst pa_nil))
      (pss_cons (ps_for PassesOwn.leaving rfl (pi_tup (pv 1)) (pg_name (i := 2) scDo.nd rfl (Or.inl rfl))
        (pss_cons (ps_expr (pe_bm PySem.F.plainAttrs_list PySem.F.slot_list_append PySem.F.type_list_append mt_append (pv 3) (pa_cons (pe_meth (E := E) (pv 0) S.cl S.mIP GP hr bP .nil (passes_call (takes_of rfl rfl rfl rfl) (fun _ _ _ _ h => h)) (pa_cons (pv 2) pa_nil)) pa_nil)))
        (pss_one (ps_if (pt_val (pe_ix ix_list (pv 3) (pe_un un_neg pe_int) (fun _ _ => rfl)))
          (pss_one (ps_dput hu (pe_fld (pv 0) rfl) (pe_ix ix_tup (pv 2) pe_int (fun _ _ => rfl))
            (pe_call GA hr2 rfl cA.g cA.k bA .nil pass0 (pa_cons (pv 2) (pa_cons (pe_meth (E := E) (pv 0) S.cl S.mRO GR hr4 bR .nil (passes_call (takes_of rfl rfl rfl rfl) (fun _ _ _ _ h => h)) (pa_cons (pe_ix ix_tup (pv 2) pe_int (fun _ _ => rfl)) pa_nil)) pa_nil))) rfl)) pss_nil))))
      (pss_one (ps_ret (pe_callTy call_tupleF (by rfl) tuple (by decide +kernel) (pa_cons (pv 3) pa_nil)))))), ?_⟩
  have big : sizeLine > 1000 := by decide
  have lx : xs.length = us.length := hxs.length
  refine ⟨_, rfl, p, rfl, ⟨_, hp⟩, for_tup (K := K) (a := p) (xs := xs) (fun i σ H' => ∃ (v2 : Option V), σ = [some (.ref st), some (.ref p), v2, none] ∧ Same H H' ∧ ∀ j, j < i → ∀ tj, us[j]? = some tj → isChg ts tj = true) ⟨none, rfl, Same.refl H, fun j hj => absurd hj (Nat.not_lt_zero _)⟩
    (fun i σ H' _ ⟨_, _, s', _⟩ => sameT s' hp) ?_ ?_⟩
  · rintro i y σ H2 hi ⟨v2, rfl, s2, al⟩
    obtain ⟨t, et, ⟨n, bs, d⟩, tw⟩ := each_get hxs hi
    refine ⟨_, rfl, st, dx, _, rfl, s2 _ _ sa.hs, rfl, _, rfl, st, dx, tp, rd, ws, ts, qs, rss, y, t, n, bs, rfl, sa.same s2, d.keep (fun b _ o e => s2 b o e), tw, fun H3 s3 => ⟨_, rfl, ?_⟩⟩
    have s23 := s2.trans s3
    cases hc : isChg ts t with
    | true =>
      refine iteF ⟨_, rfl, s23, fun j hj tj ej => ?_⟩
      rcases Nat.lt_succ_iff_lt_or_eq.mp hj with lt | eq
      · exact al j lt tj ej
      · rw [eq, et] at ej
        cases ej
        exact hc
    | false =>
      refine iteT ⟨_, rfl, fun e dx2 H4 s4 ne nd xa => ?_⟩
      refine ⟨e, CIC, dx2, _, rfl, xa.2.1, xa.2.2, xa.1, fr0_none (s23.free ne), raises_own U.xc.exC U.xc.tyC, ?_⟩
      refine k2 i y t hi et hc al dx2 _ (fun b o q => ?_) (s23.free nd) upd_same
      have q2 := s23 b o q
      rw [upd_ne (ne_of_none q2 nd), delH_ne (ne_of_none q2 ne)]
      exact s4 b o q2
  rintro σ H1 ⟨v2, rfl, s1, al⟩
  rw [lx] at al
  have all : ∀ t ∈ us, isChg ts t = true := fun t m => by
    obtain ⟨j, lt, e⟩ := List.mem_iff_getElem.mp m
    exact al j lt t (by rw [List.getElem?_eq_getElem lt, e])
  refine ⟨by show 0 ≤ sizeLine; omega, fun L hL => ?_⟩
  have sL := s1.trans (same_upd (o := .lst []) hL)
  have hL0 : H L = none := s1.free hL
  have rL : L ≠ rd := fun e => by
    have q := s1 _ _ sa.hd
    rw [← e, hL] at q
    cases q
  refine ⟨_, rfl, p, rfl, ⟨_, sameT sL hp⟩, for_tup (K := K) (a := p) (xs := xs) (fun i σ H' => ∃ (v2 : Option V) (qs' : List Addr), σ = [some (.ref st), some (.ref p), v2, some (.ref L)] ∧ Du rd H H' ∧ H' L = some (.lst ((boolsT ts rss (us.take i)).map V.bl)) ∧
      StAt K H' C CT st dx tp rd ws ts qs' (stepsT ts rss (us.take i)) ∧ Fit (N + i) ts (stepsT ts rss (us.take i))) ⟨_, qs, rfl, Du.of_same sL, upd_same, sa.same sL, fit⟩ ?_ ?_ ?_⟩
  · rintro i σ H' _ ⟨_, _, _, du, _⟩
    have hp' := hp
    rcases hp' with (h | ⟨o, h⟩) | h
    · exact .inl (.inl (du _ _ (fun q => by rw [q, sa.hd] at h; cases h) h))
    · exact .inl (.inr ⟨o, du _ _ (fun q => by rw [q, sa.hd] at h; cases h) h⟩)
    · exact .inr h
  · rintro i y σ H2 hi ⟨v2, qs2, rfl, du, eL, sa2, fit2⟩
    obtain ⟨t, et, ⟨n, bs, d0⟩, tw⟩ := each_get hxs hi
    have hc := all t (List.mem_of_getElem? et)
    have d := d0.fz (du.fz sa.hd) (chg_pure hc)
    have li : i < us.length := (List.getElem?_eq_some_iff.mp et).1
    have tk : us.take (i + 1) = us.take i ++ [t] := by rw [List.take_add_one, et]; rfl
    generalize hr2 : stepsT ts rss (us.take i) = rs2 at sa2 fit2
    generalize hb2 : boolsT ts rss (us.take i) = bs2 at eL
    have st2 : stepsT ts rss (us.take (i + 1)) = stepT ts rs2 t := by rw [tk, steps_snoc, hr2]
    have bo2 : boolsT ts rss (us.take (i + 1)) = bs2 ++ [posT ts rs2 t] := by rw [tk, bools_snoc, hb2, hr2]
    have bl2 : bs2.length = i := by
      rw [← hb2, bools_len, List.length_take]
      omega
    have lrw : rs2.length = ts.length := by rw [← sa2.rw.length, sa2.lq]
    refine ⟨_, rfl, .inl ⟨rfl, _, SqL.of eL⟩, _, rfl, st, dx, _, rfl, sa2.hs, rfl, _, rfl, N + i, st, dx, tp, rd, ws, ts, qs2, rs2, y, t, n, bs, rfl, sa2, d, tw, fit2, by omega, fun _ H3 s3 => ?_, fun z => by rw [hc] at z; cases z⟩
    refine ⟨L, _, _, rfl, rfl, s3 _ _ eL, by rw [List.length_map]; omega, ?_⟩
    have du3 : Du rd H (upd H3 L (.lst (bs2.map V.bl ++ [V.bl (posT ts rs2 t)]))) := fun b o n e => by
      rw [upd_ne (ne_of_none e hL0)]
      exact s3 _ _ (du b o n e)
    have sa3 : StAt K (upd H3 L (.lst (bs2.map V.bl ++ [V.bl (posT ts rs2 t)]))) C CT st dx tp rd ws ts qs2 rs2 := sa2.nl fun b o n e => by
      have q : b ≠ L := fun z => by
        rw [z, eL] at e
        exact n _ (Option.some.inj e).symm
      rw [upd_ne q]
      exact s3 b o e
    have eL3 : upd H3 L (.lst (bs2.map V.bl ++ [V.bl (posT ts rs2 t)])) L = some (.lst ((boolsT ts rss (us.take (i + 1))).map V.bl)) := by
      rw [upd_same, bo2, List.map_append]
      rfl
    show tSeq _ _ _ _ (upd H3 L (.lst (bs2.map V.bl ++ [V.bl (posT ts rs2 t)])))
    generalize upd H3 L (.lst (bs2.map V.bl ++ [V.bl (posT ts rs2 t)])) = H4 at du3 sa3 eL3 ⊢
    have last : atI ((boolsT ts rss (us.take (i + 1))).map V.bl) (-1) = some (V.bl (posT ts rs2 t)) := by
      rw [bo2, List.map_append]
      exact atI_last _ _
    refine ⟨_, rfl, _, rfl, L, _, -1, _, rfl, rfl, SqL.of eL3, last, _, rfl, ?_⟩
    cases hp2 : posT ts rs2 t with
    | false =>
      refine iteF ⟨_, qs2, rfl, du3, eL3, ?_, ?_⟩
      · rw [st2, step_no hp2]
        exact sa3
      · rw [st2, step_no hp2]
        exact fit2.up (Nat.le_succ _)
    | true =>
      refine iteT ?_
      have d4 := d0.fz (du3.fz sa.hd) (chg_pure hc)
      obtain ⟨pc, kd, j, ti, vs, rows, rs, rfl, et', hpc, hvs, etj, erj, fi, o1, hl, l12, pe, m, cs, dn⟩ := chg_at fit2 lrw d4 hc
      obtain ⟨g, o2, few⟩ := fit2 j ti rs etj erj
      have lq : j < qs2.length := by
        rw [sa3.lq]
        exact (List.getElem?_eq_some_iff.mp etj).1
      have eqj := List.getElem?_eq_getElem lq
      obtain ⟨rs', er2, ob, ys, hq, hd, hys⟩ := each_get sa3.rw eqj
      rw [erj] at er2
      obtain rfl := Option.some.inj er2
      have dnk : ∀ {H'}, Same H4 H' → Dt K H' (V.str ti.nm) (.str ti.nm) m cs := fun s' => dn.keep fun b _ o e => s' b o e
      refine ⟨_, rfl, _, rfl, st, dx, _, rfl, sa3.hs, rfl, _, rfl, pc, _, ((1 : Nat) : Int), .str ti.nm, rfl, rfl, hpc, atI_nat rfl, st, dx, tp, rd, ws, ts, qs2, rs2, .str ti.nm, .str ti.nm, m, cs, rfl, sa3, dn, fun j3 q3 H5 fi3 eq3 s5 => ?_, fun fi3 => by rw [fi] at fi3; cases fi3⟩
      rw [fi] at fi3
      obtain rfl := Option.some.inj fi3
      rw [eqj] at eq3
      obtain rfl := Option.some.inj eq3
      refine ⟨pc, _, kd, .str ti.nm, vs, ys, rows, rs, ti, rfl, sameT s5 hpc, hvs.keep (.of_same s5), .inl (.inr ⟨ob, s5 _ _ hq⟩), hys.keep (.of_same s5), g, o1, o2, by omega, by omega, fun H6 q6 s6 n6 r6 => ?_⟩
      have s56 := s5.trans s6
      have sa6 := sa3.same s56
      refine ⟨_, rfl, st, C, dx, _, _, rfl, sa6.hs, S.cl, S.nR, rfl, _, rfl, pc, _, ((1 : Nat) : Int), .str ti.nm, rfl, rfl, sameT s56 hpc, atI_nat rfl, rd, _, rfl, DPut.k (k := (Sum.inr ti.nm : Key)) sa6.hd ?_, ?_⟩
      · have : (kvsOf ts qs2).length ≤ ts.length := by
          unfold kvsOf
          rw [List.length_zipWith]
          omega
        have := sa.few
        omega
      rw [kvs_put sa3.nd etj eqj]
      have stj : stepT ts rs2 t = rs2.set j (afterR kd rows rs) := step_is et' fi erj hp2
      have fz6 : Fz H6 (upd H6 rd (.dK (kvsOf ts (qs2.set j q6)))) := fun b o xs e => by
        rw [upd_ne fun z => by rw [z, sa6.hd] at e; cases e]
        exact e
      refine ⟨_, qs2.set j q6, rfl, fun b o n e => ?_, ?_, ?_, ?_⟩
      · rw [upd_ne n]
        exact s56 _ _ (du3 b o n e)
      · rw [upd_ne rL]
        exact s56 _ _ eL3
      · rw [st2, stj]
        have n1 : st ≠ rd := fun z => by
          have a1 := sa6.hs
          rw [z, sa6.hd] at a1
          cases a1
        refine ⟨?_, ?_, ?_, upd_same, ?_, ?_, sa3.nd, sa3.few⟩
        · rw [upd_ne n1]
          exact sa6.hs
        · have ht := sa6.ht
          rcases ht with (h | ⟨o, h⟩) | h
          · refine .inl (.inl ?_)
            rw [upd_ne fun z => by rw [z, sa6.hd] at h; cases h]
            exact h
          · refine .inl (.inr ⟨o, ?_⟩)
            rw [upd_ne fun z => by rw [z, sa6.hd] at h; cases h]
            exact h
          · exact .inr h
        · refine sa6.tb.mono fun v tt z => ?_
          obtain ⟨a, e, ⟨dx', a2, a3, a4, h1, h2, h3, h4⟩, l2, l3, l4⟩ := z
          have up : ∀ {b o}, H6 b = some o → (∀ kvs, o ≠ .dK kvs) → upd H6 rd (.dK (kvsOf ts (qs2.set j q6))) b = some o := fun {b o} e n => by
            rw [upd_ne fun z => by rw [z, sa6.hd] at e; exact n _ (Option.some.inj e).symm]
            exact e
          have upE : ∀ {b xs}, TupE K H6 b xs → TupE K (upd H6 rd (.dK (kvsOf ts (qs2.set j q6)))) b xs := fun {b xs} h => by
            rcases h with h | ⟨o, h, hd⟩
            · exact .inl h
            · exact .inr ⟨o, up h (fun _ z => nomatch z), hd⟩
          exact ⟨a, e, ⟨dx', a2, a3, a4, up h1 (fun _ z => nomatch z), upE h2, upE h3, upE h4⟩, l2, l3, l4⟩
        · refine each_set (sa6.rw.mono fun _ _ z => z.keep fz6) j ?_
          exact r6.keep fz6
        · rw [List.length_set]
          exact sa3.lq
      · rw [st2, stj]
        have al := after_len (kd := kd) (us := rows) (rs := rs) hl
        exact Fit.set fit2 etj (after_ok o1 o2) (Nat.le_trans al (Nat.succ_le_succ few))
  · rintro σ H2 ⟨v2, qs2, rfl, du, eL, sa2, fit2⟩
    rw [lx, List.take_length] at eL sa2 fit2
    refine ⟨_, rfl, L, _, rfl, SqL.of eL, fun q o hq hod => ?_⟩
    have q0 : H q = none := by
      cases e : H q with
      | none => rfl
      | some u =>
        by_cases n : q = rd
        · have := sa2.hd
          rw [← n, hq] at this
          cases this
        · have := du q u n e
          rw [hq] at this
          cases this
    refine k1 all _ q qs2 ?_ q0 ⟨o, upd_same, hod⟩ (sa2.same (same_upd hq)) fit2
    intro b u n e
    rw [upd_ne fun z => by rw [z, q0] at e; cases e]
    exact du b u n e
end
end Vm
/-! {text for x in t}: a set of texts; len of it -/
namespace Vm
open PySem PySem.Spec PyProof.Rows L2 PpSet
section
variable {X : Cx}
theorem kset_new (P : Program) (w : World) (h : Heap) : (h.push { cls := .type "set", dict := none, data := .set #[] 0 (.fresh 0 0 (!w.params.followText "set-order")) }).SetOf (mixKind P w) h.objs.size (fun _ => false) 0 :=
  ⟨_, #[], 0, _, Heap.get?_push_size _ rfl, ⟨rfl, rfl, rfl⟩, rfl, (fun e he => by simp at he), (fun k => by simp), (by decide), (by rfl), rfl⟩
theorem kset_add {pins : List (Addr × Obj)} {σ : L2.St} {H : Hp} {s : Shared} {Er : Value → Shared → Prop} {B : Addr} {S : Key → Bool} {n : Nat} {k : Key} {u : Value} {Q : Value → Shared → Prop} (I : Inv X pins σ H s) (hB : H B = some (SetK X.prog X.w B S n)) (room : n + 1 < scanBound) (ru : RelV (kV k) u)
    (go : ∀ s', Inv X pins σ (upd H B (SetK X.prog X.w B (fun j => S j || decide (j = k)) (if S k = true then n else n + 1))) s' → Q .none s') : wpAny (model X.prog X.w) X.A (call (.builtin "set.add") [.ref B, u]) Q Er s := by
  refine call_set_add (kV_is ru) (key_scan ru) (setK_get I hB) room fun heap' same fresh => ?_
  have there : ∃ o, heap'.get? B = some o := by
    obtain ⟨o, _, _, _, ho, _⟩ := fresh
    exact ⟨o, ho⟩
  exact go _ (I.write (e := B) (t' := s.toks + 1) (by rw [hB]; trivial) (.inl rfl) (fun c o ne old => (same.2 c ne).trans old) there (setK_new fresh))
/-- the reading of {elt for target in iter if ..}, elt a text -/
def tScK (P : Program) (w : World) (wi : TI) (g : TG) (tt : TT) (te : TE) (slots : List Nat) : TE := fun σ H Q => wi σ H fun J H1 => ∀ B, H1 B = none → ∃ W : Nat → Nat → Hp → Prop, (∃ m, W 0 m (upd H1 B (SetK P w B (fun _ => false) 0))) ∧ ∀ i m G, W i m G →
  (J.stop i G ∧ Q (.ref B) G) ∨ (J.go i G ∧ ∃ Y : Hp → Prop, (∀ G', Y G' → ∃ m', m' < m ∧ W (i + 1) m' G') ∧ ∀ x G', J.yld i G x G' → g x (wipe σ slots) G' fun τ G2 => wipe τ slots = wipe σ slots ∧ tt τ G2 fun yes G3 =>
    if yes = true then te τ G3 fun y G4 => ∃ (k : Key) (S : Key → Bool) (n : Nat), y = kV k ∧ G4 B = some (SetK P w B S n) ∧ n + 1 < scanBound ∧ Y (upd G4 B (SetK P w B (fun j => S j || decide (j = k)) (if S k = true then n else n + 1))) else Y G3)
theorem sck_core {pins : List (Addr × Obj)} {s : Shared} {σ : L2.St} {H : Hp} {Q : VK} {elt target it0 : Expr} {conds : List Expr} {sco : Scope} {own : List (PySem.Str × Nat)} {p0 p1 : Pos} {wi : TI} {g : TG} {tt : TT} {te : TE} {us : Option (Value → Sem Unit)} {Qf : Value → Shared → Prop}
    (calm : X.calm = true) (nodup : X.N.Nodup) (I : Inv X pins σ H s) (hi : PI X target it0 wi) (blk : BlkOk X.N X.env.scope sco own)
    (hg : ∀ (z : Shared) (G : Hp) (C : Addr) (cl : List (PySem.Str × Addr)) (fp : List Addr), PG (X.blk z G sco (compEnvC sco cl C X.env) fp) target g)
    (ht : ∀ (z : Shared) (G : Hp) (C : Addr) (cl : List (PySem.Str × Addr)) (fp : List Addr), PTs (X.blk z G sco (compEnvC sco cl C X.env) fp) conds tt)
    (he : ∀ (z : Shared) (G : Hp) (C : Addr) (cl : List (PySem.Str × Addr)) (fp : List Addr), PE (X.blk z G sco (compEnvC sco cl C X.env) fp) elt te) (fold : ∀ x, foldedSetIterable it0 X.env x = pure x)
    (want : tScK X.prog X.w wi g tt te (own.map (·.2)) σ H Q)
    (fin : ∀ B C z m G, Inv X pins σ G z → Q (.ref B) G → z.heap.Ns C m → FpOk X pins G C → compPost (model X.prog X.w) X.A X.xe us Qf (.ref B) C (.ok .next) z) :
    wpAny (model X.prog X.w) X.A (comprehension (.SetComp elt [⟨target, it0, conds, 0⟩] sco p0) sco X.env p1 (PySem.newSet (.type "set")) false (eval it0 X.env) us) Qf X.xe s := by
  have frees : ∀ y ∈ sco.names, y.2 = .free → ∃ c, X.env.cells.lookup y.1 = some c := fun y hy q => (blk.free y hy q).elim (fun a => I.ok.has _ (.inl a)) fun a => I.ok.has _ (.inr a)
  refine wpAny_comprehension_free (use := us) rfl fold (closure_ok frees) blk.kind (fun y hy q => by rw [blk.uniq y hy, q]) (thn (hi.run pins s σ H _ I want) fun _ z1 h1 => thn h1 fun _ z2 h2 => ?_)
  obtain ⟨it, fp, tn, J, G2, rfl, I2, T, at2, ok2, body⟩ := h2
  refine newSet_ok (newEnv_comp ?_)
  generalize eB : z2.heap.objs.size = B
  have noneB : G2 B = none := I2.hok.fresh (Nat.le_of_eq eB)
  obtain ⟨W, ⟨m0, w0⟩, turn⟩ := body B noneB
  generalize e3 : ({ z2 with heap := z2.heap.push { cls := .type "set", dict := none, data := .set #[] 0 (.fresh 0 0 (!X.w.params.followText "set-order")) } } : Shared) = z3
  have I3 : Inv X pins σ (upd G2 B (SetK X.prog X.w B (fun _ => false) 0)) z3 := by
    subst e3
    subst eB
    exact I2.laid (t' := z2.toks) (fun b o old => Heap.get?_push_of_some _ old) (Nat.le_refl _) (setK_new (kset_new X.prog X.w z2.heap))
  have heap3 : z3.heap = z2.heap.push { cls := .type "set", dict := none, data := .set #[] 0 (.fresh 0 0 (!X.w.params.followText "set-order")) } := by subst e3; rfl
  have small : ∀ b ∈ fp, b < z2.heap.objs.size := fun b hb => let ⟨_, q, _⟩ := T.obj _ _ at2 b hb; Heap.lt_size q
  have ok3 : ∀ b ∈ fp, FpOk X pins (upd G2 B (SetK X.prog X.w B (fun _ => false) 0)) b ∧ b < z3.heap.objs.size := fun b hb => by
    have lt := small b hb
    refine ⟨⟨?_, (ok2 b hb).2⟩, ?_⟩
    · rw [upd_ne (eB ▸ Nat.ne_of_lt lt)]
      exact (ok2 b hb).1
    · rw [heap3, Heap.size_push]
      exact Nat.lt_succ_of_lt lt
  have at3 : tn 0 z3.heap := T.keep _ _ _ at2 fun b _ o old => heap3 ▸ Heap.get?_push_of_some _ old
  have I4 := block_start I3 blk nodup ok3
  have kg := hg z3 (upd G2 B (SetK X.prog X.w B (fun _ => false) 0)) z3.heap.objs.size (cellsFrom (z3.heap.objs.size + 1) sco.names (cloFrom X.env.cells sco.names [])) fp
  have kt := ht z3 (upd G2 B (SetK X.prog X.w B (fun _ => false) 0)) z3.heap.objs.size (cellsFrom (z3.heap.objs.size + 1) sco.names (cloFrom X.env.cells sco.names [])) fp
  have ke := he z3 (upd G2 B (SetK X.prog X.w B (fun _ => false) 0)) z3.heap.objs.size (cellsFrom (z3.heap.objs.size + 1) sco.names (cloFrom X.env.cells sco.names [])) fp
  show codeAny _ _ (.compStart (.SetComp elt [⟨target, it0, conds, 0⟩] sco p0) 0 (.ref it) (.ref B) (compEnvC sco (cellsFrom (z3.heap.objs.size + 1) sco.names (cloFrom X.env.cells sco.names [])) z3.heap.objs.size X.env)) (compPost (model X.prog X.w) X.A X.xe us Qf (.ref B) z3.heap.objs.size) { z3 with heap := pushCells (z3.heap.push { cls := .type "dict", data := .dict #[] }) sco.names }
  have nofp : ∀ b ∈ fp, (upd G2 B (SetK X.prog X.w B (fun _ => false) 0)) b = none := fun b hb => (ok3 b hb).1.1
  generalize eE : compEnvC sco (cellsFrom (z3.heap.objs.size + 1) sco.names (cloFrom X.env.cells sco.names [])) z3.heap.objs.size X.env = en at I4 kg kt ke ⊢
  have enL : en.locals = z3.heap.objs.size := by
    rw [← eE]
    rfl
  generalize eG3 : upd G2 B (SetK X.prog X.w B (fun _ => false) 0) = G3 at I3 I4 kg kt ke w0 nofp ok3
  generalize e4 : ({ z3 with heap := pushCells (z3.heap.push { cls := .type "dict", data := .dict #[] }) sco.names } : Shared) = z4 at I4 ⊢
  have at4 : tn 0 z4.heap := T.keep _ _ _ at3 fun b _ o old => e4 ▸ pushCells_keeps _ _ _ _ (Heap.get?_push_of_some _ old)
  have still : ∀ {τ : L2.St} {G' : Hp} {z : Shared}, Inv (X.blk z3 G3 sco en fp) [] τ G' z → (∀ b ∈ fp, G' b = none) → ∀ b ∈ fp, FpOk (X.blk z3 G3 sco en fp) [] G' b := fun {τ G' z} J' off b hb =>
    ⟨off b hb, (J'.ok.exf b hb).1, J'.ok.exfs b hb, .inl hb, fun x c q => (J'.ok.exf b hb).2 x c q, fun r hr => absurd (show r ∈ ([] : List (Addr × Obj)) ++ [] from hr) (by simp)⟩
  have run : codeAny (model X.prog X.w) X.A (.compLoop (.SetComp elt [⟨target, it0, conds, 0⟩] sco p0) 0 (.ref it) (.ref B) en) (compPost (model X.prog X.w) X.A X.xe us Qf (.ref B) z3.heap.objs.size) z4 := by
    refine compLoopS_any (fun n z => ∃ i G', Inv (X.blk z3 G3 sco en fp) [] (wipe σ (own.map (·.2))) G' z ∧ tn i z.heap ∧ (∀ b ∈ fp, G' b = none) ∧ W i n G') ?_ m0 ⟨0, G3, I4, at4, nofp, w0⟩
    rintro n z5 ⟨i, G5, I5, at5, off5, w5⟩
    rcases turn i n G5 w5 with ⟨stop, last⟩ | ⟨more, Y, less, step⟩
    · refine thnF (T.done (X.blk z3 G3 sco en fp) rfl rfl rfl calm i [] z5 _ G5 (fun _ _ => False) I5 (still I5 off5) at5 stop) fun _ z6 ⟨e6, I6⟩ => ?_
      subst e6
      have I7 : Inv X pins σ G5 z6 := I3.call' (ch := fp) I6.os I6.base I6.hok I6.bare fun b hb => let q := (ok3 b hb).1.2; ⟨q.2.2.1, q.1, q.2.2.2.1, q.2.2.2.2⟩
      have offC : G5 z3.heap.objs.size = none := by
        have q : G5 en.locals = none := I6.free
        exact enL ▸ q
      obtain ⟨m, space, _⟩ := I6.loc
      have space : z6.heap.Ns en.locals m := space
      rw [enL] at space
      exact fin B z3.heap.objs.size z6 m G5 I7 last space (I3.fpOk (Nat.le_refl _) offC)
    · refine thnF (T.item (X.blk z3 G3 sco en fp) rfl rfl rfl calm i [] z5 _ G5 (fun _ _ => False) I5 (still I5 off5) at5 more) fun _ z6 ⟨u, e6, h6⟩ => ?_
      subst e6
      refine thnF h6 fun _ z7 ⟨x, G7, I7, r7, y7, at7, off7⟩ => ?_
      have J7 := I7.pinned (still I7 off7) (T.obj _ _ at7)
      refine thnF (kg.run _ z7 _ G7 x u _ J7 r7 (step x G7 y7)) fun _ z8 ⟨τ, G8, I8, w8, q8⟩ => ?_
      refine thnF (kt.run _ z8 τ G8 _ I8 q8) fun yes z9 ⟨G9, I9, q9⟩ => ?_
      have turned : ∀ {z : Shared} {G' : Hp}, Inv (X.blk z3 G3 sco en fp) ([] ++ pinsAt fp z7.heap) τ G' z → Y G' → ∃ m, m < n ∧ ∃ i G', Inv (X.blk z3 G3 sco en fp) [] (wipe σ (own.map (·.2))) G' z ∧ tn i z.heap ∧ (∀ b ∈ fp, G' b = none) ∧ W i m G' := fun {z G'} J' yy => by
        obtain ⟨m', lt, w'⟩ := less G' yy
        have pinned : ∀ b ∈ fp, ∀ o, z7.heap.get? b = some o → z.heap.get? b = some o ∧ G' b = none := fun b hb o old =>
          let q := J'.pin (b, o) (List.mem_append_right _ (List.mem_append_right _ (mem_pinsAt hb old)))
          ⟨q.1, q.2.1⟩
        have len8 : (wipe σ (own.map (·.2))).length = τ.length := by
          rw [← w8, wipe_length]
        refine ⟨m', lt, i + 1, G', (J'.unpinned (pins := [])).weak len8 (fun j v q => (wipe_some (w8 ▸ q)).1), T.keep _ _ _ at7 fun b hb o old => (pinned b hb o old).1, fun b hb => ?_, w'⟩
        obtain ⟨o, old, _⟩ := T.obj _ _ at7 b hb
        exact (pinned b hb o old).2
      cases yes with
      | false =>
        rw [if_neg Bool.false_ne_true] at q9
        rw [if_neg Bool.false_ne_true]
        exact turned I9 q9
      | true =>
        rw [if_pos rfl] at q9
        rw [if_pos rfl]
        refine thnF (ke.run _ z9 τ G9 _ I9 q9) fun _ z10 ⟨yv, G10, I10, r10, k, S0, n0, ey, eB10, room, nx⟩ => ?_
        subst ey
        exact kset_add (X := X.blk z3 G3 sco en fp) I10 eB10 room r10 fun z11 I11 => turned I11 nx
  exact codeAny_compStart_set run (T.self X.A 0 _ _ _ at4 run)
theorem pe_sck {elt target it0 : Expr} {conds : List Expr} {sco : Scope} {own : List (PySem.Str × Nat)} {pos : Pos} {wi : TI} {g : TG} {tt : TT} {te : TE} (calm : X.calm = true) (nodup : X.N.Nodup) (hi : PI X target it0 wi) (blk : BlkOk X.N X.env.scope sco own)
    (hg : ∀ (z : Shared) (G : Hp) (C : Addr) (cl : List (PySem.Str × Addr)) (fp : List Addr), PG (X.blk z G sco (compEnvC sco cl C X.env) fp) target g)
    (ht : ∀ (z : Shared) (G : Hp) (C : Addr) (cl : List (PySem.Str × Addr)) (fp : List Addr), PTs (X.blk z G sco (compEnvC sco cl C X.env) fp) conds tt)
    (he : ∀ (z : Shared) (G : Hp) (C : Addr) (cl : List (PySem.Str × Addr)) (fp : List Addr), PE (X.blk z G sco (compEnvC sco cl C X.env) fp) elt te) (fold : ∀ x, foldedSetIterable it0 X.env x = pure x := by intro _; rfl) :
    PE X (.SetComp elt [⟨target, it0, conds, 0⟩] sco pos) (tScK X.prog X.w wi g tt te (own.map (·.2))) := by
  constructor
  intro pins s σ H Q I want
  rw [eval_SetComp]
  refine sck_core calm nodup I hi blk hg ht he fold want fun B C z m G J q space off => ⟨m, space, fun h2 same => ?_⟩
  obtain ⟨a0, a1, a2, a3, a4, a5⟩ := off
  exact ⟨.ref B, G, J.turned (t' := z.toks) (fun b o ne old => (same.2 b ne).trans old) a0 a1 a3 a4 a5, rfl, q⟩
/-- over a tuple that stands still, without an if -/
theorem sck_tup {P : Program} {w : World} {K : PySem.W.Frag} {a : Addr} {xs : List V} {g : TG} {te : TE} {slots : List Nat} {σ : L2.St} {H1 : Hp} {B : Addr} {Qd : Hp → Prop} (Pv : Nat → Hp → Prop) (start : Pv 0 (upd H1 B (SetK P w B (fun _ => false) 0))) (stays : ∀ i G, i ≤ xs.length → Pv i G → SqT K G a xs)
    (turn : ∀ i x G, xs[i]? = some x → Pv i G → g x (wipe σ slots) G fun τ G2 => wipe τ slots = wipe σ slots ∧ te τ G2 fun y G4 => ∃ (k : Key) (S : Key → Bool) (n : Nat), y = kV k ∧ G4 B = some (SetK P w B S n) ∧ n + 1 < scanBound ∧
      Pv (i + 1) (upd G4 B (SetK P w B (fun j => S j || decide (j = k)) (if S k = true then n else n + 1)))) (done : ∀ G, Pv xs.length G → Qd G) :
    ∃ W : Nat → Nat → Hp → Prop, (∃ m, W 0 m (upd H1 B (SetK P w B (fun _ => false) 0))) ∧ ∀ i m G, W i m G →
      ((Itt K a).stop i G ∧ Qd G) ∨ ((Itt K a).go i G ∧ ∃ Y : Hp → Prop, (∀ G', Y G' → ∃ m', m' < m ∧ W (i + 1) m' G') ∧ ∀ x G', (Itt K a).yld i G x G' → g x (wipe σ slots) G' fun τ G2 => wipe τ slots = wipe σ slots ∧ tYes τ G2 fun yes G3 =>
        if yes = true then te τ G3 fun y G4 => ∃ (k : Key) (S : Key → Bool) (n : Nat), y = kV k ∧ G4 B = some (SetK P w B S n) ∧ n + 1 < scanBound ∧ Y (upd G4 B (SetK P w B (fun j => S j || decide (j = k)) (if S k = true then n else n + 1))) else Y G3) := by
  refine ⟨fun i m G => m = xs.length - i ∧ i ≤ xs.length ∧ Pv i G, ⟨xs.length, Nat.sub_zero _ |>.symm, Nat.zero_le _, start⟩, ?_⟩
  rintro i m G ⟨rfl, le, pv⟩
  have sq := stays i G le pv
  rcases Nat.lt_or_ge i xs.length with lt | ge
  · refine .inr ⟨⟨xs, xs[i], sq, List.getElem?_eq_getElem lt⟩, Pv (i + 1), fun G' pv' => ⟨xs.length - (i + 1), by omega, rfl, lt, pv'⟩, fun x G' y => ?_⟩
    obtain ⟨same, at_⟩ := y
    subst same
    have t := turn i x _ (at_ xs sq) pv
    exact t
  · obtain rfl : i = xs.length := Nat.le_antisymm le ge
    exact .inl ⟨⟨xs, sq, Nat.le_refl _⟩, done G pv⟩
end
end Vm
/-! Store.__init__, of tables with different names -/
namespace Vm
open PySem PySem.Spec PyProof.Rows L2 StX ClX PpSet
section
variable {X : Cx}
/-- len of a set of keys -/
theorem call_lenK : CallR X (.builtin "len") (fun xs H Q => ∃ (a : Addr) (S : Key → Bool) (n : Nat), xs = [.ref a] ∧ H a = some (SetK X.prog X.w a S n) ∧ n < 1000 ∧ Q (.int n) H) := by
  intro pins s σ H xs us Q I r h
  obtain ⟨a, S, n, rfl, ha, few, q⟩ := h
  rw [Vals.ref1 r]
  obtain ⟨o, es, ep, t, ho, hex, hd, _, _, _, hf, hn⟩ := setK_get I ha
  exact call_len_set ho hex hd hf (by rw [hn]; omega) ⟨.int n, H, I.tok _, ⟨_, by rw [hn]⟩, q⟩
end
/-- what isinstance asks of a class -/
structure IsO (K : PySem.W.Frag) (C : Addr) : Prop where
  ca : PySem.W.findIn K (.ref C) "__class__" = some (some (.builtin "object.__class__"))
  cn : PySem.W.specialIn K (.builtin "object.__class__") "__get__" = some (some (.builtin "getset_descriptor.__get__"))
  ct : PySem.W.takesIn K (.builtin "object.__class__") = some true
  mo : PySem.W.mroIn K C (.type "object") = some true
  kC : PySem.W.kitOne K (.ref C) (.ref C) = some true
/-- the names of the first i tables -/
def namesB (ts : List Ti) (i : Nat) : Key → Bool
  | .inl _ => false
  | .inr x => (ts.take i).any fun t => t.nm == x
theorem names_new {ts : List Ti} {i : Nat} {ti : Ti} (nd : (ts.map Ti.nm).Nodup) (e : ts[i]? = some ti) : namesB ts i (Sum.inr ti.nm) = false := by
  show ((ts.take i).any fun t => t.nm == ti.nm) = false
  rw [List.any_eq_false]
  intro t m h
  have h2 := beq_iff_eq.mp h
  obtain ⟨j, e3⟩ := List.mem_iff_getElem?.mp m
  have lt : j < i := by
    have := (List.getElem?_eq_some_iff.mp e3).1
    rw [List.length_take] at this
    omega
  rw [List.getElem?_take_of_lt lt] at e3
  have f1 := first_nm nd e
  have f2 := first_nm nd e3
  rw [h2, f1] at f2
  have := Option.some.inj f2
  omega
theorem names_succ {ts : List Ti} {i : Nat} {ti : Ti} (e : ts[i]? = some ti) : (fun j : Key => namesB ts i j || decide (j = Sum.inr ti.nm)) = namesB ts (i + 1) := by
  funext j
  cases j with
  | inl n => rfl
  | inr x =>
    show (((ts.take i).any fun t => t.nm == x) || decide ((Sum.inr x : Key) = Sum.inr ti.nm)) = (ts.take (i + 1)).any fun t => t.nm == x
    rw [List.take_add_one, e, List.any_append]
    congr 1
    show decide ((Sum.inr x : Key) = Sum.inr ti.nm) = ((ti.nm == x) || false)
    rw [Bool.or_false]
    by_cases q : ti.nm = x
    · rw [q, decide_eq_true rfl, beq_self_eq_true]
    · rw [decide_eq_false fun z => q (Sum.inr.inj z).symm, beq_eq_false_iff_ne.mpr q]
theorem kvs_next {ts : List Ti} {qs : List Addr} {i : Nat} {ti : Ti} {q : Addr} (nd : (ts.map Ti.nm).Nodup) (e : ts[i]? = some ti) (l : qs.length = i) : putK (kvsOf (ts.take i) qs) (Sum.inr ti.nm) (V.ref q) = kvsOf (ts.take (i + 1)) (qs ++ [q]) := by
  have lt := (List.getElem?_eq_some_iff.mp e).1
  have no : ((kvsOf (ts.take i) qs).any fun kv => decide (kv.1 = (Sum.inr ti.nm : Key))) = false := by
    rw [List.any_eq_false]
    intro kv m h
    have h2 := of_decide_eq_true h
    obtain ⟨j, e3⟩ := List.mem_iff_getElem?.mp m
    unfold kvsOf at e3
    rw [List.getElem?_zipWith] at e3
    cases a : (ts.take i)[j]? with
    | none => rw [a] at e3; cases e3
    | some tj =>
      cases b : qs[j]? with
      | none => rw [a, b] at e3; cases e3
      | some qj =>
        rw [a, b] at e3
        obtain rfl := Option.some.inj e3
        have nn := names_new nd e
        have : ((ts.take i).any fun t => t.nm == ti.nm) = true := List.any_eq_true.mpr ⟨tj, List.mem_of_getElem? a, beq_iff_eq.mpr (Sum.inr.inj h2)⟩
        have nn' : ((ts.take i).any fun t => t.nm == ti.nm) = false := nn
        rw [nn'] at this
        cases this
  unfold putK
  rw [no, if_neg (by decide)]
  unfold kvsOf
  rw [List.take_add_one, e]
  show _ = List.zipWith _ (ts.take i ++ [ti]) (qs ++ [q])
  rw [List.zipWith_append (by rw [List.length_take]; omega)]
  rfl
def spSInit (K : PySem.W.Frag) (C CT : Addr) : Sp := fun vs H Q _ => ∃ (e dx p : Addr) (ws : List V) (ts : List Ti), vs = [.ref e, .ref p] ∧ H e = some (.ins C dx []) ∧ SqT K H p ws ∧ TbsAt K H CT ws ts ∧ 1 ≤ ts.length ∧ ts.length ≤ 3 ∧ (ts.map Ti.nm).Nodup ∧
  ∀ H' rd qs, (∀ b o, b ≠ e → H b = some o → H' b = some o) → H rd = none → StAt K H' C CT e dx p rd ws ts qs (ts.map fun _ => []) → Q .non H'
section
variable {P : Program} {w : World} {K : PySem.W.Frag} {mg : Str → Option Value} {base : Heap} {fNm fNms fCols fKey C CT CI fTO fRO fIC fIP : Addr} {mc uM : Value}
theorem ok_sinit {f : Addr} {fd : FuncData} (F : Fun K "__init__" "Store.__init__" sSInit f fd) (T : TxtP K mg fNm fNms) (U : TxtT K mg CT CI fCols fKey) (O : IsO K CT) (S : TxtS K mg C fTO fRO fIC fIP) (cr : CRead K C mc) (cv : CVal K C mc "MOST" (.int 3) uM) :
    FnR P w K mg base (L2.CX P w) 2 f (fun vs H Q E => ∃ ws rest, vs = ws ++ rest ∧ ws.length = (["self"] : List Str).length ∧ rest.length ≤ sizeLine ∧ ∀ p, H p = Option.none → spSInit K C CT (ws ++ [V.ref p]) (upd H p (.tup rest)) Q E) := by
  refine Fun.star (k := 1) F scSInit cxUp bind_sinit (fun cdv A outer s H vs Q E hr h => ?_)
  obtain ⟨e, dx, p, ws, ts, rfl, he, hp, hts, l1, l3, nd, k⟩ := h
  refine ⟨_, pss_cons (ps_if (PW.pt (pw_or (pt_not (pt_chain op_le op_le pe_int (pe_callB call_len_seq (by rfl) T.len (by decide +kernel) (pa_cons (pv 1) pa_nil)) (pe_cval (pe_glob (v := .ref C) (by rfl) S.gC rfl))))
        (pw_or1 (pt_not (pt_val (pe_callB (cr_all rfl) (by rfl) T.all (by decide +kernel) (pa_cons (pe_lc (own := [("table", 2)]) (g := gName 2) (tt := tYes) (te := tCB (rIsi K) (tCons (tVar 2) (tCons (tC (.ref CT)) tNil))) rfl scSInit.nd (pi_tup (pv 1))
          (blkOk_by (N := ["self", "tables", "table"]) (sc := defScope sSInit) (by decide +kernel)) (fun _ _ _ _ _ => pg_name (i := 2) scSInit.nd rfl (Or.inl rfl)) (fun _ _ _ _ _ => pts_nil)
          (fun _ _ _ _ _ => by exact (pe_callB call_isi (by rfl) T.isi (by decide +kernel) (pa_cons (pv 2) (pa_cons (pe_glob (v := .ref CT) (by rfl) U.gC rfl) pa_nil))))) pa_nil))))))) (pss_one ps_never) pss_nil)
    (pss_cons (ps_if (pt_cmpR op_ne (pe_callB call_lenK (by rfl) T.len (by decide +kernel) (pa_cons (pe_sck (own := [("table", 2)]) (g := gName 2) (tt := tYes) (te := tFld K (tVar 2) "name") rfl scSInit.nd (pi_tup (pv 1))
          (blkOk_by (N := ["self", "tables", "table"]) (sc := defScope sSInit) (by decide +kernel)) (fun _ _ _ _ _ => pg_name (i := 2) scSInit.nd rfl (Or.inl rfl)) (fun _ _ _ _ _ => pts_nil)
          (fun _ _ _ _ _ => by exact (pe_fld (pv 2) rfl))) pa_nil)) (pe_callB call_len_seq (by rfl) T.len (by decide +kernel) (pa_cons (pv 1) pa_nil)) (nomark _)) (pss_one ps_never) pss_nil)
    (pss_cons (ps_fld (pv 0) (pv 1) rfl)
    (pss_one (ps_fld (pv 0) (pe_dc (own := [("table", 2)]) (g := gName 2) (tt := tYes) (tk := tFld K (tVar 2) "name") (tv := tTupF tNil) rfl scSInit.nd (pi_tup (pv 1))
          (blkOk_by (N := ["self", "tables", "table"]) (sc := defScope sSInit) (by decide +kernel)) (fun _ _ _ _ _ => pg_name (i := 2) scSInit.nd rfl (Or.inl rfl)) (fun _ _ _ _ _ => pts_nil)
          (fun _ _ _ _ _ => by exact (pe_fld (pv 2) rfl)) (fun _ _ _ _ _ => by exact (pe_tupF pa_nil))) rfl)))), ?_⟩
  have big : sizeLine > 1000 := by decide
  have sb : scanBound > 100 := by decide
  have lw : ws.length = ts.length := hts.length
  have field : ∀ {H2 : Hp} {i : Nat} {y : V}, Same H H2 → ws[i]? = some y → ∃ ti a dx2 fs, ts[i]? = some ti ∧ y = V.ref a ∧ H2 a = some (.ins CT dx2 fs) ∧ fs.lookup ("name" : Str) = some (V.str ti.nm) := fun {H2 i y} s2 hi => by
    obtain ⟨ti, et, a, rfl, tb⟩ := each_get hts hi
    obtain ⟨dx2, a2, a3, a4, ha, _⟩ := (tb.same s2).ex
    exact ⟨ti, a, dx2, _, et, rfl, ha, rfl⟩
  refine ⟨_, rfl, p, _, rfl, .inr hp, _, _, rfl, rfl, _, rfl, ?_⟩
  have c1 : (1 : Int) ≤ ((ws.length : Nat) : Int) := by omega
  rw [decide_eq_true c1]
  refine iteT ⟨C, mc, .int 3, uM, rfl, cr, cv, _, _, rfl, rfl, _, rfl, ?_⟩
  have c2 : ((ws.length : Nat) : Int) ≤ 3 := by omega
  rw [decide_eq_true c2]
  refine iteF ?_
  -- all tables
  refine ⟨_, rfl, p, rfl, ⟨_, hp⟩, fun D hD => ?_⟩
  refine lc_tup (K := K) (a := p) (xs := ws) (fun i H' => Same H H' ∧ H' D = some (.lst ((List.replicate i true).map V.bl))) ⟨same_upd hD, upd_same⟩ (fun i H' _ z => sameT z.1 hp) ?_ ?_
  · rintro i y H2 hi ⟨s2, e2⟩
    refine ⟨rfl, ?_⟩
    dsimp only [tYes]
    rw [if_pos rfl]
    obtain ⟨ti, a, dx2, fs, et, rfl, ha, _⟩ := field s2 hi
    have li := (List.getElem?_eq_some_iff.mp hi).1
    refine ⟨_, rfl, .ref a, _, _, _, true, rfl, .own _, .base (.ins ha U.cl O.ca O.cn O.ct O.mo), O.kC, _, e2, ?_, fun b u eu => ?_, ?_⟩
    · rw [List.length_map, List.length_replicate]
      omega
    · rw [upd_ne (ne_of_none eu hD)]
      exact s2 b u eu
    · rw [upd_same, List.replicate_succ', List.map_append]
      rfl
  rintro H1 ⟨s1, e1⟩
  refine ⟨D, _, rfl, SqL.of e1, _, rfl, ?_⟩
  have al : ((List.replicate ws.length true).all id) = true := by
    rw [List.all_eq_true]
    intro b m
    exact (List.mem_replicate.mp m).2
  rw [al]
  refine iteF ?_
  -- different names
  refine ⟨_, rfl, p, rfl, ⟨_, sameT s1 hp⟩, fun B hB => ?_⟩
  refine sck_tup (K := K) (a := p) (xs := ws) (fun i H' => Same H1 H' ∧ H' B = some (SetK P w B (namesB ts i) i)) ⟨same_upd hB, ?_⟩ (fun i H' _ z => sameT (s1.trans z.1) hp) ?_ ?_
  · rw [upd_same]
    congr 2
    funext j
    cases j <;> rfl
  · rintro i y H2 hi ⟨s2, e2⟩
    refine ⟨rfl, ?_⟩
    obtain ⟨ti, a, dx2, fs, et, rfl, ha, hf⟩ := field (s1.trans s2) hi
    have li := (List.getElem?_eq_some_iff.mp hi).1
    refine ⟨_, rfl, a, CT, dx2, fs, _, rfl, ha, U.cl, U.n1, hf, Sum.inr ti.nm, namesB ts i, i, rfl, e2, by omega, fun b u eu => ?_, ?_⟩
    · rw [upd_ne (ne_of_none eu hB)]
      exact s2 b u eu
    · rw [upd_same, names_succ et, names_new nd et]
      rfl
  rintro H2 ⟨s2, e2⟩
  have s12 := s1.trans s2
  refine ⟨B, _, _, rfl, e2, by omega, ?_⟩
  refine ⟨_, rfl, p, _, rfl, .inr (sameT s12 hp), rfl, _, rfl, ?_⟩
  rw [decide_eq_true rfl]
  refine iteF ?_
  -- the fields
  refine ⟨_, rfl, _, rfl, e, C, dx, _, rfl, s12 _ _ he, S.cl, S.nT, by decide, ?_⟩
  have keepT : ∀ {G : Hp} {fs : List (Str × V)} {o : HO} {q : Addr} {xs : List V}, G e = some (.ins C dx fs) → SqT K G q xs → SqT K (upd G e o) q xs := fun {G fs o q xs} ge h => by
    rcases h with (h | ⟨ob, h⟩) | h
    · refine .inl (.inl ?_)
      rw [upd_ne fun z => by rw [z, ge] at h; cases h]
      exact h
    · refine .inl (.inr ⟨ob, ?_⟩)
      rw [upd_ne fun z => by rw [z, ge] at h; cases h]
      exact h
    · exact .inr h
  have keepB : ∀ {G : Hp} {fs : List (Str × V)} {o : HO} {v : V} {t : Ti}, G e = some (.ins C dx fs) → (∀ a, v = V.ref a → a ≠ e) → TbAt K G CT v t → TbAt K (upd G e o) CT v t := fun {G fs o v t} ge ne h => by
    obtain ⟨a, ev, ⟨dx', a2, a3, a4, h1, h2, h3, h4⟩, m2, m3, m4⟩ := h
    have up : ∀ {b xs}, TupE K G b xs → TupE K (upd G e o) b xs := fun {b xs} h => by
      rcases h with h | ⟨ob, h, hd⟩
      · exact .inl h
      · refine .inr ⟨ob, ?_, hd⟩
        rw [upd_ne fun z => by rw [z, ge] at h; cases h]
        exact h
    refine ⟨a, ev, ⟨dx', a2, a3, a4, ?_, up h2, up h3, up h4⟩, m2, m3, m4⟩
    rw [upd_ne (ne a ev)]
    exact h1
  have he2 := s12 _ _ he
  have nE : ∀ v ∈ ws, ∀ a, v = V.ref a → a ≠ e := fun v m a ea z => by
    obtain ⟨i, hi⟩ := List.mem_iff_getElem?.mp m
    obtain ⟨ti, et, b, eb, ⟨dx', b2, b3, b4, hb, _⟩, _⟩ := each_get hts hi
    rw [ea] at eb
    have := V.ref.inj eb
    rw [← this, z, he] at hb
    have := HO.ins.inj (Option.some.inj hb)
    cases this.2.2
  have hp3 : SqT K (upd H2 e (.ins C dx (putF "_tables" (.ref p) []))) p ws := keepT he2 (sameT s12 hp)
  have hts3 : TbsAt K (upd H2 e (.ins C dx (putF "_tables" (.ref p) []))) CT ws ts := by
    have m : ∀ {vs : List V} {us : List Ti}, (∀ v ∈ vs, v ∈ ws) → TbsAt K H2 CT vs us → TbsAt K (upd H2 e (.ins C dx (putF "_tables" (.ref p) []))) CT vs us := by
      intro vs us sub z
      induction z with
      | nil => exact .nil
      | cons a _ ih => exact .cons (keepB he2 (nE _ (sub _ List.mem_cons_self)) a) (ih fun v hv => sub v (List.mem_cons_of_mem _ hv))
    exact m (fun _ h => h) (tbs_same hts s12)
  have he3 : upd H2 e (.ins C dx (putF "_tables" (.ref p) [])) e = some (.ins C dx [("_tables", .ref p)]) := upd_same
  have old3 : ∀ b o, b ≠ e → H b = some o → upd H2 e (.ins C dx (putF "_tables" (.ref p) [])) b = some o := fun b o n q => by
    rw [upd_ne n]
    exact s12 b o q
  have none3 : ∀ b, upd H2 e (.ins C dx (putF "_tables" (.ref p) [])) b = none → H b = none := fun b q => by
    by_cases z : b = e
    · rw [z, he3] at q
      cases q
    · rw [upd_ne z] at q
      exact s12.free q
  generalize upd H2 e (.ins C dx (putF "_tables" (.ref p) [])) = H3 at hp3 hts3 he3 old3 none3 ⊢
  refine ⟨_, rfl, p, rfl, ⟨_, hp3⟩, fun R hR => ?_⟩
  have field3 : ∀ {G : Hp} {i : Nat} {y : V}, Same H3 G → ws[i]? = some y → ∃ ti a dx2 fs, ts[i]? = some ti ∧ y = V.ref a ∧ G a = some (.ins CT dx2 fs) ∧ fs.lookup ("name" : Str) = some (V.str ti.nm) := fun {G i y} s2 hi => by
    obtain ⟨ti, et, a, rfl, tb⟩ := each_get hts3 hi
    obtain ⟨dx2, a2, a3, a4, ha, _⟩ := (tb.same s2).ex
    exact ⟨ti, a, dx2, _, et, rfl, ha, rfl⟩
  refine dc_tup (K := K) (a := p) (xs := ws) (fun i H' => Same H3 H' ∧ ∃ qs, H' R = some (.dK (kvsOf (ts.take i) qs)) ∧ qs.length = i ∧ RTups H' qs (List.replicate i [])) ⟨same_upd hR, [], upd_same, rfl, .nil⟩ (fun i H' _ z => sameT z.1 hp3) ?_ ?_
  · rintro i y H4 hi ⟨s4, qs, e4, lq, rt⟩
    refine ⟨rfl, ?_⟩
    dsimp only [tYes]
    rw [if_pos rfl]
    obtain ⟨ti, a, dx2, fs, et, rfl, ha, hf⟩ := field3 s4 hi
    have li := (List.getElem?_eq_some_iff.mp hi).1
    refine ⟨_, rfl, a, CT, dx2, fs, _, rfl, ha, U.cl, U.n1, hf, by show 0 ≤ sizeLine; omega, fun q o hq hod => ?_⟩
    have qR : R ≠ q := fun z => by
      rw [← z, e4] at hq
      cases hq
    have sq := same_upd (o := .frz o (.tup [])) hq
    refine ⟨_, Sum.inr ti.nm, rfl, sq _ _ e4, ?_, fun b u eu => ?_, qs ++ [q], ?_, by rw [List.length_append, lq]; rfl, ?_⟩
    · unfold kvsOf
      rw [List.length_zipWith]
      omega
    · rw [upd_ne (ne_of_none eu hR)]
      exact sq _ _ (s4 b u eu)
    · rw [upd_same, kvs_next nd et lq]
    · have fz : Fz H4 (upd (upd H4 q (.frz o (.tup []))) R (.dK (putK (kvsOf (ts.take i) qs) (Sum.inr ti.nm) (.ref q)))) := fun b ob xs eb => by
        rw [upd_ne fun z => by rw [z, e4] at eb; cases eb]
        exact sq _ _ eb
      rw [List.replicate_succ']
      refine each_append (rt.mono fun _ _ z => z.keep fz) (.cons ⟨o, [], ?_, hod, .nil⟩ .nil)
      rw [upd_ne qR.symm, upd_same]
  · rintro H4 ⟨s4, qs, e4, lq, rt⟩
    rw [lw, List.take_length] at e4
    rw [lw] at lq rt
    refine ⟨_, rfl, e, C, dx, _, rfl, s4 _ _ he3, S.cl, S.nR, by show 1 < 1000; decide, ?_⟩
    have he4 := s4 _ _ he3
    have hR0 : H R = none := none3 R hR
    have Re : R ≠ e := fun z => by
      rw [z, he] at hR0
      cases hR0
    have fz5 : Fz H4 (upd H4 e (.ins C dx (putF "_rows" (.ref R) [("_tables", .ref p)]))) := fun b ob xs eb => by
      rw [upd_ne fun z => by rw [z, he4] at eb; cases eb]
      exact eb
    refine k _ R qs (fun b o n eb => ?_) hR0 ⟨upd_same, keepT he4 (sameT s4 hp3), ?_, ?_, ?_, lq, nd, l3⟩
    · rw [upd_ne n]
      exact s4 _ _ (old3 b o n eb)
    · have m : ∀ {vs : List V} {us : List Ti}, (∀ v ∈ vs, v ∈ ws) → TbsAt K H4 CT vs us → TbsAt K (upd H4 e (.ins C dx (putF "_rows" (.ref R) [("_tables", .ref p)]))) CT vs us := by
        intro vs us sub z
        induction z with
        | nil => exact .nil
        | cons a _ ih => exact .cons (keepB he4 (nE _ (sub _ List.mem_cons_self)) a) (ih fun v hv => sub v (List.mem_cons_of_mem _ hv))
      exact m (fun _ h => h) (tbs_same hts3 s4)
    · rw [upd_ne Re]
      exact e4
    · have e6 : (ts.map fun _ => ([] : List Row)) = List.replicate ts.length [] := by
        rw [List.map_const']
      rw [e6]
      exact rt.mono fun _ _ z => z.keep fz5
end
end Vm
/-! a def with a star called in a try: what is raised is wished for at the slots -/
namespace Vm
open PySem PySem.Spec PyProof.Rows L2 StX
def tMRSl (C : Addr) (m : Str) (sp : Sp) (E : L2.St → XK) (ta : TE) (t : TA) : TE := fun σ H Q => ta σ H fun x H1 => ∃ a dx fs, x = .ref a ∧ H1 a = some (.ins C dx fs) ∧ fs.lookup m = none ∧ t σ H1 fun vs H2 => sp (x :: vs) H2 Q (E σ)
def tMakeRS (C : Addr) (sp : Sp) (E : L2.St → XK) (t : TA) : TE := fun σ H Q => t σ H fun vs H1 => ∀ x dx, H1 x = Option.none → H1 dx = Option.none → dx ≠ x →
  sp (V.ref x :: vs) (upd (upd H1 dx (.own x)) x (.ins C dx [])) (fun v H2 => v = .non ∧ Q (.ref x) H2) (E σ)
section
variable {X : Cx} {CX : CXT} {k : Nat} {f C : Addr} {sp : Sp} {E : L2.St → XK} {m x : Str} {p pos apos : Pos} {o e : Expr} {es : List Expr} {ta : TE} {t : TA}
theorem run_starAt {pins : List (Addr × Obj)} {σ : L2.St} {H : Hp} {s : Shared} {Q : VK} {us : List Value} {vs : List V} (F : FnR X.prog X.w X.K X.mg X.base CX k f sp) (hr : Room k X.A) (hx : PassesAt CX X σ (E σ)) (I : Inv X pins σ H s) (r : Vals vs us) (h : sp vs H Q (E σ)) :
    wpAny (model X.prog X.w) X.A (call (.ref f) us) (EP X pins σ Q) X.xe s := by
  refine wpAny_call (codeAny_mono (F X.A X.stack s H us vs Q (E σ) hr I.env0 r h) fun z s2 hq => ?_)
  cases z with
  | error e => exact hx pins H s e s2 I hq
  | ok fl =>
    cases fl with
    | ret u => exact I.after hq
    | next => exact False.elim hq
    | brk => exact False.elim hq
    | cont => exact False.elim hq
theorem pe_mRS {pl : Sem Bool} (he : PE X o ta) (c : Cls X.K C) (hm : Meth X.K C m f) (F : FnR X.prog X.w X.K X.mg X.base CX k f sp) (hr : Room k X.A) (hx : ∀ σ, PassesAt CX X σ (E σ)) (ha : PA X (e :: es) t)
    (hst : starEach (e :: es) X.env = (false, eval e X.env) :: starEach es X.env := by rfl) (hpl : (backTo pos (starEach es X.env)).any (·.1) = false := by rfl)
    (ht : eval (.Call (.Attribute o m apos) (e :: es) [] pos) X.env = (do
      let ov ← eval o X.env
      standAt apos.atName
      let (g, first) ← holding [ov] (getMethod ov m pl)
      callWith pos g first (backTo pos (starEach (e :: es) X.env)) (backToKw pos (keywordEach [] X.env))) := by rfl) :
    PE X (.Call (.Attribute o m apos) (e :: es) [] pos) (tMRSl C m sp E ta t) := by
  refine ⟨fun pins s σ H Q I h => ?_⟩
  refine PySem.W.methodCall_KW (pl := pl) (thn (he.run pins s σ H _ I h) fun u s1 ⟨y, H1, I1, rx, a, dx, fs, ex, ea, l, q⟩ => ?_) ht
  subst ex
  obtain rfl : u = Value.ref a := rx
  refine getmeth_ok I1 ea c hm l ?_
  refine PySem.W.callWith_K (first := [.ref a]) (h₀ := X.base) I.ok.mod.kin hm.kp (thn (ha.run pos pins s1 σ H1 _ I1 q) fun us s2 ⟨vs, H2, I2, r, q2⟩ => ⟨I2.kIn, ?_⟩) hst hpl
  exact run_starAt (us := .ref a :: us) (vs := .ref a :: vs) F hr (hx σ) I2 (.cons rfl r) q2
theorem pe_mRS0 {pl : Sem Bool} (he : PE X o ta) (c : Cls X.K C) (hm : Meth X.K C m f) (F : FnR X.prog X.w X.K X.mg X.base CX k f sp) (hr : Room k X.A) (hx : ∀ σ, PassesAt CX X σ (E σ))
    (ht : eval (.Call (.Attribute o m apos) [] [] pos) X.env = (do
      let ov ← eval o X.env
      standAt apos.atName
      let (g, first) ← holding [ov] (getMethod ov m pl)
      callWith pos g first (backTo pos (starEach [] X.env)) (backToKw pos (keywordEach [] X.env))) := by rfl) :
    PE X (.Call (.Attribute o m apos) [] [] pos) (tMRSl C m sp E ta tNil) := by
  refine ⟨fun pins s σ H Q I h => ?_⟩
  refine PySem.W.methodCall_KW (pl := pl) (thn (he.run pins s σ H _ I h) fun u s1 ⟨y, H1, I1, rx, a, dx, fs, ex, ea, l, q⟩ => ?_) ht
  subst ex
  obtain rfl : u = Value.ref a := rx
  refine getmeth_ok I1 ea c hm l ?_
  exact PySem.W.callWith_K0 (first := [.ref a]) I1.kIn hm.kp (run_starAt (us := [.ref a]) (vs := [.ref a]) F hr (hx σ) I1 (.cons rfl .nil) q)
theorem run_bornAt {pins : List (Addr × Obj)} {σ : L2.St} {H : Hp} {s : Shared} {Q : VK} {us : List Value} {vs : List V} (M : Mk X.K C f) (F : FnR X.prog X.w X.K X.mg X.base CX k f sp) (hr : Room (k + 1) X.A) (hx : PassesAt CX X σ (E σ)) (I : Inv X pins σ H s) (r : Vals vs us)
    (h : ∀ x dx, H x = Option.none → H dx = Option.none → dx ≠ x → sp (V.ref x :: vs) (upd (upd H dx (.own x)) x (.ins C dx [])) (fun v H2 => v = .non ∧ Q (.ref x) H2) (E σ)) : wpAny (model X.prog X.w) X.A (call (.ref C) us) (EP X pins σ Q) X.xe s := by
  have hq := h (s.heap.objs.size + 1) s.heap.objs.size (I.hok.fresh (Nat.le_succ _)) (I.hok.fresh (Nat.le_refl _)) (Nat.ne_of_lt (Nat.lt_succ_self _))
  have J := Inv.made (C := C) I
  have r2 : Vals (V.ref (s.heap.objs.size + 1) :: vs) (Value.ref (s.heap.objs.size + 1) :: us) := .cons rfl r
  refine wpAny_call (make_map (f := f) I.kIn M.makes M.init (beq_iff_eq.mp M.fn) (codeAny_mono (F _ X.stack _ _ (Value.ref (s.heap.objs.size + 1) :: us) _ _ (E σ) (hr.make C us []) (J.env0.make C us []) r2 hq) fun z s2 got => ?_))
  cases z with
  | error e => exact hx pins _ _ e s2 J got
  | ok fl =>
    cases fl with
    | ret u =>
      obtain ⟨v, H2, J2, rv, ev, q⟩ := J.after got
      subst ev
      exact ⟨rv, ⟨V.ref (s.heap.objs.size + 1), H2, J2, rfl, q⟩⟩
    | next => exact False.elim got
    | brk => exact False.elim got
    | cont => exact False.elim got
theorem pe_makeRS (M : Mk X.K C f) (F : FnR X.prog X.w X.K X.mg X.base CX k f sp) (hr : Room (k + 1) X.A) (hg : Gl X x) (hm : X.mg x = some (.ref C)) (hx : ∀ σ, PassesAt CX X σ (E σ)) (ha : PA X (e :: es) t) (hdb : (x == ("__debug__" : Str)) = false := by decide)
    (he : starEach (e :: es) X.env = (false, eval e X.env) :: starEach es X.env := by rfl) (hpl : (backTo pos (starEach es X.env)).any (·.1) = false := by rfl) : PE X (.Call (.Name x p) (e :: es) [] pos) (tMakeRS C sp E t) := by
  refine ⟨fun pins s σ H Q I h => ?_⟩
  refine wpAny_Call_Name_kw (ld_glob I hg hm ?_ hdb)
  refine PySem.W.callWith_K (h₀ := X.base) I.ok.mod.kin M.kp (thn (ha.run pos pins s σ H _ I h) fun us s1 ⟨vs, H1, I1, r, q⟩ => ⟨I1.kIn, ?_⟩) he hpl
  exact run_bornAt M F hr (hx σ) I1 r q
theorem pe_makeRS0 (M : Mk X.K C f) (F : FnR X.prog X.w X.K X.mg X.base CX k f sp) (hr : Room (k + 1) X.A) (hg : Gl X x) (hm : X.mg x = some (.ref C)) (hx : ∀ σ, PassesAt CX X σ (E σ)) (hdb : (x == ("__debug__" : Str)) = false := by decide) : PE X (.Call (.Name x p) [] [] pos) (tMakeRS C sp E tNil) := by
  refine ⟨fun pins s σ H Q I h => ?_⟩
  refine wpAny_Call_Name_kw (ld_glob I hg hm ?_ hdb)
  exact PySem.W.callWith_K0 I.kIn M.kp (run_bornAt (us := []) M F hr (hx σ) I .nil h)
end
/-! the different ones of some texts -/
def difs (xs : List Str) : List Str := xs.foldl (fun acc x => if x ∈ acc then acc else acc ++ [x]) []
theorem difs_snoc (xs : List Str) (x : Str) : difs (xs ++ [x]) = if x ∈ difs xs then difs xs else difs xs ++ [x] := by
  unfold difs
  rw [List.foldl_append]
  rfl
theorem snoc_ind {α : Type} {p : List α → Prop} (h0 : p []) (h1 : ∀ xs x, p xs → p (xs ++ [x])) (xs : List α) : p xs := by
  have : ∀ ys : List α, p ys.reverse := fun ys => by
    induction ys with
    | nil => exact h0
    | cons y r ih =>
      rw [List.reverse_cons]
      exact h1 _ _ ih
  rw [← List.reverse_reverse xs]
  exact this _
theorem difs_mem (xs : List Str) : ∀ y, y ∈ difs xs ↔ y ∈ xs := by
  refine snoc_ind (p := fun xs => ∀ y, y ∈ difs xs ↔ y ∈ xs) (by simp [difs]) (fun xs x ih y => ?_) xs
  rw [difs_snoc]
  by_cases h : x ∈ difs xs
  · rw [if_pos h, ih]
    refine ⟨fun m => List.mem_append_left _ m, fun m => ?_⟩
    rcases List.mem_append.mp m with m | m
    · exact m
    · rw [List.mem_singleton.mp m]
      exact (ih x).mp h
  · rw [if_neg h, List.mem_append, List.mem_append, ih]
theorem difs_len (xs : List Str) : (difs xs).length ≤ xs.length ∧ ((difs xs).length = xs.length → xs.Nodup) := by
  refine snoc_ind (p := fun xs => (difs xs).length ≤ xs.length ∧ ((difs xs).length = xs.length → xs.Nodup)) ⟨Nat.le_refl _, fun _ => List.nodup_nil⟩ (fun xs x ih => ?_) xs
  obtain ⟨a, b⟩ := ih
  rw [difs_snoc]
  split
  · rename_i h
    rw [List.length_append]
    exact ⟨Nat.le_succ_of_le a, fun e => by
      have : ([x] : List Str).length = 1 := rfl
      omega⟩
  · rename_i h
    rw [List.length_append, List.length_append]
    have one : ([x] : List Str).length = 1 := rfl
    refine ⟨by omega, fun e => ?_⟩
    have n := b (by omega)
    rw [List.nodup_append]
    refine ⟨n, by simp, fun p hp q hq e2 => h ?_⟩
    rw [List.mem_singleton.mp hq] at e2
    rw [← e2]
    exact (difs_mem xs p).mpr hp
end Vm
namespace Vm
open PySem L2
/-- the texts ss, zs are the same -/
def sameSS : List Str → List Str → Bool
  | [], [] => true
  | x :: r, z :: s => x == z && sameSS r s
  | _, _ => false
theorem sameSS_eq : ∀ ss zs : List Str, sameSS ss zs = decide (ss = zs)
  | [], [] => rfl
  | [], z :: s => rfl
  | x :: r, [] => rfl
  | x :: r, z :: s => by
    show (x == z && sameSS r s) = _
    rw [sameSS_eq r s]
    by_cases h : x = z
    · subst h
      rw [beq_self_eq_true, Bool.true_and]
      by_cases h2 : r = s
      · rw [decide_eq_true h2, decide_eq_true (by rw [h2])]
      · rw [decide_eq_false h2, decide_eq_false fun q => h2 (List.cons.inj q).2]
    · rw [beq_eq_false_iff_ne.mpr h, Bool.false_and, decide_eq_false fun q => h (List.cons.inj q).1]
theorem strs_data : ∀ ss : List Str, sameS (ss.map Tr.str) = sameSS ss
  | [] => by
    funext zs
    cases zs <;> rfl
  | x :: r => by
    funext zs
    cases zs with
    | nil => rfl
    | cons z s =>
      show (isS z (.str x) && sameS (r.map Tr.str) s) = (x == z && sameSS r s)
      rw [strs_data r]
      rfl
section
variable {X : Cx}
/-- two tuples of texts -/
def rEqSS (K : PySem.W.Frag) : R2 := fun x y H Q => ∃ (p q : Addr) (ss zs : List Str), x = .ref p ∧ y = .ref q ∧ SqT K H p (ss.map V.str) ∧ SqT K H q (zs.map V.str) ∧ Q (.bl (decide (ss = zs))) H
theorem op_eqSS (hu : X.A.units + 1 < cLine) : OpR X (compareOp .Eq) (rEqSS X.K) := by
  intro pins s σ H x y v u Q I rx ry h
  obtain ⟨p, q, ss, zs, rfl, rfl, hp, hq, k⟩ := h
  cases rx
  cases ry
  obtain ⟨its, r, pl, _⟩ := I.tuple hp
  obtain ⟨its2, r2, pl2, _⟩ := I.tuple hq
  have l1 : its.length = ss.length := by rw [← r.length, List.length_map]
  have l2 : its2.length = zs.length := by rw [← r2.length, List.length_map]
  refine SeqAt.eq_tupleAt (e := atS (ss.map Tr.str) zs) pl pl2 (by omega) (fun j h1 h2 => ?_) ⟨.bl _, H, I, rfl, ?_⟩
  · have h1' : j < its.length := by simpa using h1
    have h2' : j < its2.length := by simpa using h2
    have j1 : j < ss.length := by omega
    have j2 : j < zs.length := by omega
    obtain ⟨u, a1, a2⟩ := r.get (show (ss.map V.str)[j]? = some (V.str ss[j]) by rw [List.getElem?_map, List.getElem?_eq_getElem j1]; rfl)
    obtain ⟨u2, b1, b2⟩ := r2.get (show (zs.map V.str)[j]? = some (V.str zs[j]) by rw [List.getElem?_map, List.getElem?_eq_getElem j2]; rfl)
    obtain ⟨k1, rfl⟩ := a2
    obtain ⟨k2, rfl⟩ := b2
    have c1 : its.toArray[j] = Value.str ss[j] k1 := by
      have := List.getElem?_eq_getElem h1'
      rw [a1] at this
      simpa using (Option.some.inj this).symm
    have c2 : its2.toArray[j] = Value.str zs[j] k2 := by
      have := List.getElem?_eq_getElem h2'
      rw [b1] at this
      simpa using (Option.some.inj this).symm
    have e : atS (ss.map Tr.str) zs j = (ss[j] == zs[j]) := by
      unfold atS
      rw [List.getElem?_map, List.getElem?_eq_getElem j1, List.getElem?_eq_getElem j2]
      rfl
    rw [c1, c2, e]
    exact SeqAt.EqAt.str_str _ k1 _ k2
  · have e : ((List.range (min its.toArray.size its2.toArray.size)).all (atS (ss.map Tr.str) zs) && its.toArray.size == its2.toArray.size) = decide (ss = zs) := by
      rw [← sameSS_eq, ← strs_data, ← all_atS, List.size_toArray, List.size_toArray, l1, l2, List.length_map]
    rw [e]
    exact k
end
/-- two tables are equal -/
def eqTb (nm : Str) (ss zs ks : List Str) (nm' : Str) (ss' zs' ks' : List Str) : Bool := decide (nm = nm') && (decide (ss = ss') && (decide (zs = zs') && decide (ks = ks')))
/-- what isinstance asks of the class -/
structure TxtO (K : PySem.W.Frag) (C : Addr) : Prop where
  ca : PySem.W.findIn K (.ref C) "__class__" = some (some (.builtin "object.__class__"))
  cn : PySem.W.specialIn K (.builtin "object.__class__") "__get__" = some (some (.builtin "getset_descriptor.__get__"))
  ct : PySem.W.takesIn K (.builtin "object.__class__") = some true
  mo : PySem.W.mroIn K C (.type "object") = some true
  kC : PySem.W.kitOne K (.ref C) (.ref C) = some true
  kT : ∀ t : Tr, PySem.W.kitOne K (.type (tyOf t)) (.ref C) = some false
def spEqT (K : PySem.W.Frag) (C : Addr) : Sp := fun vs H Q _ => ∃ (a : Addr) (y : V) (nm : Str) (ss zs ks : List Str), vs = [.ref a, y] ∧ Tb K H C a nm ss zs ks ∧
  ((∃ (b : Addr) (nm' : Str) (ss' zs' ks' : List Str), y = .ref b ∧ Tb K H C b nm' ss' zs' ks' ∧ ∀ H', Same H H' → Q (.bl (eqTb nm ss zs ks nm' ss' zs' ks')) H') ∨
    ∃ (t : Tr) (n : Nat) (bs : List Addr), Dt K H y t n bs ∧ ∀ H', Same H H' → Q (.bl false) H')
section
variable {P : Program} {w : World} {K : PySem.W.Frag} {mg : Str → Option Value} {base : Heap} {fNm fNms fCols fKey C CI : Addr}
theorem scEq : FnScope ["self", "other"] ["self", "other"] (defScope sEq) := ⟨rfl, rfl, rfl, by decide +kernel, rfl, by decide +kernel, by decide +kernel⟩
theorem ok_eq {f : Addr} {fd : FuncData} (F : Fun K "__eq__" "Table.__eq__" sEq f fd) (T : TxtP K mg fNm fNms) (U : TxtT K mg C CI fCols fKey) (O : TxtO K C) : FnOk P w K mg base CX0 1 f fd ["self", "other"] (spEqT K C) := by
  refine F.ok scEq (fun vs H Q E h => ?_) (fun cdv A outer s H vs Q E hr h => ?_)
  · obtain ⟨a, y, nm, ss, zs, ks, rfl, _⟩ := h
    rfl
  · obtain ⟨a, y, nm, ss, zs, ks, rfl, tb, h⟩ := h
    have hu : (A.deeper (PyProof.Rows.envOfC "Table.__eq__" (defScope sEq) s.heap.objs.size f cdv)).units + 1 < cLine := by
      have := hr.units
      omega
    obtain ⟨⟨dx, a2, a3, a4, ha, h2, h3, h4⟩, l2, l3, l4⟩ := tb
    have h2 := h2.sq
    have h3 := h3.sq
    have h4 := h4.sq
    refine ⟨_, pss_one (ps_ret (pe_and (pe_callB call_isi (by rfl) T.isi (by decide +kernel) (pa_cons (pv 1) (pa_cons (pe_glob (v := .ref C) rfl U.gC rfl) pa_nil)))
      (pe_and (pe_cmpR op_eq (pe_fld (pv 0) rfl) (pe_fld (pv 1) rfl) (nomark _)) (pe_and (pe_cmpR (op_eqSS hu) (pe_fld (pv 0) rfl) (pe_fld (pv 1) rfl) (nomark _))
        (pe_and (pe_cmpR (op_eqSS hu) (pe_fld (pv 0) rfl) (pe_fld (pv 1) rfl) (nomark _)) (pe_one (pe_cmpR (op_eqSS hu) (pe_fld (pv 0) rfl) (pe_fld (pv 1) rfl) (nomark _)))))))), ?_⟩
    rcases h with ⟨b, nm', ss', zs', ks', rfl, tb', k⟩ | ⟨t, n, bs, d, k⟩
    · obtain ⟨⟨dx', b2, b3, b4, hb, g2, g3, g4⟩, _, _, _⟩ := tb'
      have g2 := g2.sq
      have g3 := g3.sq
      have g4 := g4.sq
      refine ⟨_, rfl, .ref b, _, _, _, true, rfl, .own _, .base (.ins hb U.cl O.ca O.cn O.ct O.mo), O.kC, _, rfl, ?_⟩
      refine iteT ?_
      refine ⟨_, rfl, a, C, dx, _, _, rfl, ha, U.cl, U.n1, rfl, _, rfl, b, C, dx', _, _, rfl, hb, U.cl, U.n1, rfl, rfl, _, rfl, ?_⟩
      have e1 : decide (V.str nm = V.str nm') = decide (nm = nm') := by
        by_cases z : nm = nm'
        · rw [z, decide_eq_true rfl, decide_eq_true rfl]
        · rw [decide_eq_false z, decide_eq_false fun q => z (V.str.inj q)]
      unfold eqTb at k
      refine ite_ (fun c => ?_) (fun c => ?_)
      · rw [← e1, decide_eq_true c, Bool.true_and] at k
        refine ⟨_, rfl, a, C, dx, _, _, rfl, ha, U.cl, U.n2, rfl, _, rfl, b, C, dx', _, _, rfl, hb, U.cl, U.n2, rfl, a2, b2, ss, ss', rfl, rfl, h2, g2, _, rfl, ?_⟩
        refine ite_ (fun c2 => ?_) (fun c2 => ?_)
        · rw [decide_eq_true c2, Bool.true_and] at k
          refine ⟨_, rfl, a, C, dx, _, _, rfl, ha, U.cl, U.n3, rfl, _, rfl, b, C, dx', _, _, rfl, hb, U.cl, U.n3, rfl, a3, b3, zs, zs', rfl, rfl, h3, g3, _, rfl, ?_⟩
          refine ite_ (fun c3 => ?_) (fun c3 => ?_)
          · rw [decide_eq_true c3, Bool.true_and] at k
            exact ⟨_, rfl, a, C, dx, _, _, rfl, ha, U.cl, U.n4, rfl, _, rfl, b, C, dx', _, _, rfl, hb, U.cl, U.n4, rfl, a4, b4, ks, ks', rfl, rfl, h4, g4, k H (Same.refl H)⟩
          · rw [decide_eq_false c3, Bool.false_and] at k
            exact k H (Same.refl H)
        · rw [decide_eq_false c2, Bool.false_and] at k
          exact k H (Same.refl H)
      · rw [← e1, decide_eq_false c, Bool.false_and] at k
        exact k H (Same.refl H)
    · refine ⟨_, rfl, y, _, _, _, false, rfl, .own _, d.ty, O.kT t, _, rfl, ?_⟩
      exact iteF (k H (Same.refl H))
end
end Vm
/-! Store.__init__, of any values -/
namespace Vm
open PySem PySem.Spec PyProof.Rows L2 StX ClX PpSet
/-- a value that is no table -/
def NotTb (K : PySem.W.Frag) (H : Hp) (v : V) : Prop := ∃ t : Tr, ∀ H', Same H H' → TyX K H' v (.type (tyOf t))
def ItAt (K : PySem.W.Frag) (H : Hp) (CT : Addr) (v : V) : Option Ti → Prop
  | some ti => TbAt K H CT v ti
  | none => NotTb K H v
abbrev ItsAt (K : PySem.W.Frag) (H : Hp) (CT : Addr) : List V → List (Option Ti) → Prop := PySem.W.EachIs (ItAt K H CT)
def GoodIts (its : List (Option Ti)) (ts : List Ti) : Prop := its = ts.map some ∧ 1 ≤ ts.length ∧ ts.length ≤ 3 ∧ (ts.map Ti.nm).Nodup
theorem its_tbs {K : PySem.W.Frag} {H : Hp} {CT : Addr} : ∀ {ws : List V} {ts : List Ti}, ItsAt K H CT ws (ts.map some) → TbsAt K H CT ws ts
  | _, [], .nil => .nil
  | _, t :: ts, .cons h r => .cons h (its_tbs r)
theorem all_some : ∀ {its : List (Option Ti)}, (its.map Option.isSome).all id = true → ∃ ts : List Ti, its = ts.map some
  | [], _ => ⟨[], rfl⟩
  | none :: r, h => nomatch h
  | some ti :: r, h => by
    rw [List.map_cons, List.all_cons, Bool.and_eq_true] at h
    obtain ⟨ts, rfl⟩ := all_some h.2
    exact ⟨ti :: ts, rfl⟩
/-- what the written part says of InvalidStore -/
structure TxtZ (K : PySem.W.Frag) (mg : Str → Option Value) (CZ : Addr) : Prop where
  g : mg "InvalidStore" = some (.ref CZ)
  k : PySem.W.keepIn K (.ref CZ) = true
  x : PySem.W.excIn K CZ [.type "ValueError", .type "Exception", .type "BaseException", .type "object"] "ValueError.__new__" = true
  b : PySem.W.subIn K (.ref CZ) (.type "BaseException") = some true
  t : PySem.W.typeIn K (.ref CZ) = some (.type "type")
def spSInitX (K : PySem.W.Frag) (C CT CZ : Addr) : Sp := fun vs H Q E => ∃ (e dx p : Addr) (ws : List V) (its : List (Option Ti)), vs = [.ref e, .ref p] ∧ H e = some (.ins C dx []) ∧ SqT K H p ws ∧ ItsAt K H CT ws its ∧ ws.length ≤ 10 ∧
  (∀ ts, GoodIts its ts → ∀ H' rd qs, (∀ b o, b ≠ e → H b = some o → H' b = some o) → H rd = none → StAt K H' C CT e dx p rd ws ts qs (ts.map fun _ => []) → Q .non H') ∧
  ((¬ ∃ ts, GoodIts its ts) → ∀ H', Same H H' → E (.ref CZ) none H')
section
variable {P : Program} {w : World} {K : PySem.W.Frag} {mg : Str → Option Value} {base : Heap} {fNm fNms fCols fKey C CT CI CZ fTO fRO fIC fIP : Addr} {mc uM : Value}
theorem ok_sinitX {f : Addr} {fd : FuncData} (F : Fun K "__init__" "Store.__init__" sSInit f fd) (T : TxtP K mg fNm fNms) (U : TxtT K mg CT CI fCols fKey) (O : TxtO K CT) (S : TxtS K mg C fTO fRO fIC fIP) (cr : CRead K C mc) (cv : CVal K C mc "MOST" (.int 3) uM) (Z : TxtZ K mg CZ) :
    FnR P w K mg base (L2.CX P w) 2 f (fun vs H Q E => ∃ ws rest, vs = ws ++ rest ∧ ws.length = (["self"] : List Str).length ∧ rest.length ≤ sizeLine ∧ ∀ p, H p = Option.none → spSInitX K C CT CZ (ws ++ [V.ref p]) (upd H p (.tup rest)) Q E) := by
  refine Fun.star (k := 1) F scSInit cxUp bind_sinit (fun cdv A outer s H vs Q E hr h => ?_)
  obtain ⟨e, dx, p, ws, its, rfl, he, hp, hits, l10, kg, kb⟩ := h
  refine ⟨_, pss_cons (ps_if (PW.pt (pw_or (pt_not (pt_chain op_le op_le pe_int (pe_callB call_len_seq (by rfl) T.len (by decide +kernel) (pa_cons (pv 1) pa_nil)) (pe_cval (pe_glob (v := .ref C) (by rfl) S.gC rfl))))
        (pw_or1 (pt_not (pt_val (pe_callB (cr_all rfl) (by rfl) T.all (by decide +kernel) (pa_cons (pe_lc (own := [("table", 2)]) (g := gName 2) (tt := tYes) (te := tCB (rIsi K) (tCons (tVar 2) (tCons (tC (.ref CT)) tNil))) rfl scSInit.nd (pi_tup (pv 1))
          (blkOk_by (N := ["self", "tables", "table"]) (sc := defScope sSInit) (by decide +kernel)) (fun _ _ _ _ _ => pg_name (i := 2) scSInit.nd rfl (Or.inl rfl)) (fun _ _ _ _ _ => pts_nil)
          (fun _ _ _ _ _ => by exact (pe_callB call_isi (by rfl) T.isi (by decide +kernel) (pa_cons (pv 2) (pa_cons (pe_glob (v := .ref CT) (by rfl) U.gC rfl) pa_nil))))) pa_nil))))))) (pss_one (ps_raise rfl (takes_of rfl rfl rfl rfl) (pmk_ret rfl (pe_xbare PySem.F.excBase_ValueError Z.x Z.g Z.k rfl)))) pss_nil)
    (pss_cons (ps_if (pt_cmpR op_ne (pe_callB call_lenK (by rfl) T.len (by decide +kernel) (pa_cons (pe_sck (own := [("table", 2)]) (g := gName 2) (tt := tYes) (te := tFld K (tVar 2) "name") rfl scSInit.nd (pi_tup (pv 1))
          (blkOk_by (N := ["self", "tables", "table"]) (sc := defScope sSInit) (by decide +kernel)) (fun _ _ _ _ _ => pg_name (i := 2) scSInit.nd rfl (Or.inl rfl)) (fun _ _ _ _ _ => pts_nil)
          (fun _ _ _ _ _ => by exact (pe_fld (pv 2) rfl))) pa_nil)) (pe_callB call_len_seq (by rfl) T.len (by decide +kernel) (pa_cons (pv 1) pa_nil)) (nomark _)) (pss_one (ps_raise rfl (takes_of rfl rfl rfl rfl) (pmk_ret rfl (pe_xbare PySem.F.excBase_ValueError Z.x Z.g Z.k rfl)))) pss_nil)
    (pss_cons (ps_fld (pv 0) (pv 1) rfl)
    (pss_one (ps_fld (pv 0) (pe_dc (own := [("table", 2)]) (g := gName 2) (tt := tYes) (tk := tFld K (tVar 2) "name") (tv := tTupF tNil) rfl scSInit.nd (pi_tup (pv 1))
          (blkOk_by (N := ["self", "tables", "table"]) (sc := defScope sSInit) (by decide +kernel)) (fun _ _ _ _ _ => pg_name (i := 2) scSInit.nd rfl (Or.inl rfl)) (fun _ _ _ _ _ => pts_nil)
          (fun _ _ _ _ _ => by exact (pe_fld (pv 2) rfl)) (fun _ _ _ _ _ => by exact (pe_tupF pa_nil))) rfl)))), ?_⟩
  by_cases good : ∃ ts, GoodIts its ts
  · obtain ⟨ts, good⟩ := good
    have k := kg ts good
    obtain ⟨rfl, l1, l3, nd⟩ := good
    have hts := its_tbs hits
    have big : sizeLine > 1000 := by decide
    have sb : scanBound > 100 := by decide
    have lw : ws.length = ts.length := hts.length
    have field : ∀ {H2 : Hp} {i : Nat} {y : V}, Same H H2 → ws[i]? = some y → ∃ ti a dx2 fs, ts[i]? = some ti ∧ y = V.ref a ∧ H2 a = some (.ins CT dx2 fs) ∧ fs.lookup ("name" : Str) = some (V.str ti.nm) := fun {H2 i y} s2 hi => by
      obtain ⟨ti, et, a, rfl, tb⟩ := each_get hts hi
      obtain ⟨dx2, a2, a3, a4, ha, _⟩ := (tb.same s2).ex
      exact ⟨ti, a, dx2, _, et, rfl, ha, rfl⟩
    refine ⟨_, rfl, p, _, rfl, .inr hp, _, _, rfl, rfl, _, rfl, ?_⟩
    have c1 : (1 : Int) ≤ ((ws.length : Nat) : Int) := by omega
    rw [decide_eq_true c1]
    refine iteT ⟨C, mc, .int 3, uM, rfl, cr, cv, _, _, rfl, rfl, _, rfl, ?_⟩
    have c2 : ((ws.length : Nat) : Int) ≤ 3 := by omega
    rw [decide_eq_true c2]
    refine iteF ?_
    -- all tables
    refine ⟨_, rfl, p, rfl, ⟨_, hp⟩, fun D hD => ?_⟩
    refine lc_tup (K := K) (a := p) (xs := ws) (fun i H' => Same H H' ∧ H' D = some (.lst ((List.replicate i true).map V.bl))) ⟨same_upd hD, upd_same⟩ (fun i H' _ z => sameT z.1 hp) ?_ ?_
    · rintro i y H2 hi ⟨s2, e2⟩
      refine ⟨rfl, ?_⟩
      dsimp only [tYes]
      rw [if_pos rfl]
      obtain ⟨ti, a, dx2, fs, et, rfl, ha, _⟩ := field s2 hi
      have li := (List.getElem?_eq_some_iff.mp hi).1
      refine ⟨_, rfl, .ref a, _, _, _, true, rfl, .own _, .base (.ins ha U.cl O.ca O.cn O.ct O.mo), O.kC, _, e2, ?_, fun b u eu => ?_, ?_⟩
      · rw [List.length_map, List.length_replicate]
        omega
      · rw [upd_ne (ne_of_none eu hD)]
        exact s2 b u eu
      · rw [upd_same, List.replicate_succ', List.map_append]
        rfl
    rintro H1 ⟨s1, e1⟩
    refine ⟨D, _, rfl, SqL.of e1, _, rfl, ?_⟩
    have al : ((List.replicate ws.length true).all id) = true := by
      rw [List.all_eq_true]
      intro b m
      exact (List.mem_replicate.mp m).2
    rw [al]
    refine iteF ?_
    -- different names
    refine ⟨_, rfl, p, rfl, ⟨_, sameT s1 hp⟩, fun B hB => ?_⟩
    refine sck_tup (K := K) (a := p) (xs := ws) (fun i H' => Same H1 H' ∧ H' B = some (SetK P w B (namesB ts i) i)) ⟨same_upd hB, ?_⟩ (fun i H' _ z => sameT (s1.trans z.1) hp) ?_ ?_
    · rw [upd_same]
      congr 2
      funext j
      cases j <;> rfl
    · rintro i y H2 hi ⟨s2, e2⟩
      refine ⟨rfl, ?_⟩
      obtain ⟨ti, a, dx2, fs, et, rfl, ha, hf⟩ := field (s1.trans s2) hi
      have li := (List.getElem?_eq_some_iff.mp hi).1
      refine ⟨_, rfl, a, CT, dx2, fs, _, rfl, ha, U.cl, U.n1, hf, Sum.inr ti.nm, namesB ts i, i, rfl, e2, by omega, fun b u eu => ?_, ?_⟩
      · rw [upd_ne (ne_of_none eu hB)]
        exact s2 b u eu
      · rw [upd_same, names_succ et, names_new nd et]
        rfl
    rintro H2 ⟨s2, e2⟩
    have s12 := s1.trans s2
    refine ⟨B, _, _, rfl, e2, by omega, ?_⟩
    refine ⟨_, rfl, p, _, rfl, .inr (sameT s12 hp), rfl, _, rfl, ?_⟩
    rw [decide_eq_true rfl]
    refine iteF ?_
    -- the fields
    refine ⟨_, rfl, _, rfl, e, C, dx, _, rfl, s12 _ _ he, S.cl, S.nT, by decide, ?_⟩
    have keepT : ∀ {G : Hp} {fs : List (Str × V)} {o : HO} {q : Addr} {xs : List V}, G e = some (.ins C dx fs) → SqT K G q xs → SqT K (upd G e o) q xs := fun {G fs o q xs} ge h => by
      rcases h with (h | ⟨ob, h⟩) | h
      · refine .inl (.inl ?_)
        rw [upd_ne fun z => by rw [z, ge] at h; cases h]
        exact h
      · refine .inl (.inr ⟨ob, ?_⟩)
        rw [upd_ne fun z => by rw [z, ge] at h; cases h]
        exact h
      · exact .inr h
    have keepB : ∀ {G : Hp} {fs : List (Str × V)} {o : HO} {v : V} {t : Ti}, G e = some (.ins C dx fs) → (∀ a, v = V.ref a → a ≠ e) → TbAt K G CT v t → TbAt K (upd G e o) CT v t := fun {G fs o v t} ge ne h => by
      obtain ⟨a, ev, ⟨dx', a2, a3, a4, h1, h2, h3, h4⟩, m2, m3, m4⟩ := h
      have up : ∀ {b xs}, TupE K G b xs → TupE K (upd G e o) b xs := fun {b xs} h => by
        rcases h with h | ⟨ob, h, hd⟩
        · exact .inl h
        · refine .inr ⟨ob, ?_, hd⟩
          rw [upd_ne fun z => by rw [z, ge] at h; cases h]
          exact h
      refine ⟨a, ev, ⟨dx', a2, a3, a4, ?_, up h2, up h3, up h4⟩, m2, m3, m4⟩
      rw [upd_ne (ne a ev)]
      exact h1
    have he2 := s12 _ _ he
    have nE : ∀ v ∈ ws, ∀ a, v = V.ref a → a ≠ e := fun v m a ea z => by
      obtain ⟨i, hi⟩ := List.mem_iff_getElem?.mp m
      obtain ⟨ti, et, b, eb, ⟨dx', b2, b3, b4, hb, _⟩, _⟩ := each_get hts hi
      rw [ea] at eb
      have := V.ref.inj eb
      rw [← this, z, he] at hb
      have := HO.ins.inj (Option.some.inj hb)
      cases this.2.2
    have hp3 : SqT K (upd H2 e (.ins C dx (putF "_tables" (.ref p) []))) p ws := keepT he2 (sameT s12 hp)
    have hts3 : TbsAt K (upd H2 e (.ins C dx (putF "_tables" (.ref p) []))) CT ws ts := by
      have m : ∀ {vs : List V} {us : List Ti}, (∀ v ∈ vs, v ∈ ws) → TbsAt K H2 CT vs us → TbsAt K (upd H2 e (.ins C dx (putF "_tables" (.ref p) []))) CT vs us := by
        intro vs us sub z
        induction z with
        | nil => exact .nil
        | cons a _ ih => exact .cons (keepB he2 (nE _ (sub _ List.mem_cons_self)) a) (ih fun v hv => sub v (List.mem_cons_of_mem _ hv))
      exact m (fun _ h => h) (tbs_same hts s12)
    have he3 : upd H2 e (.ins C dx (putF "_tables" (.ref p) [])) e = some (.ins C dx [("_tables", .ref p)]) := upd_same
    have old3 : ∀ b o, b ≠ e → H b = some o → upd H2 e (.ins C dx (putF "_tables" (.ref p) [])) b = some o := fun b o n q => by
      rw [upd_ne n]
      exact s12 b o q
    have none3 : ∀ b, upd H2 e (.ins C dx (putF "_tables" (.ref p) [])) b = none → H b = none := fun b q => by
      by_cases z : b = e
      · rw [z, he3] at q
        cases q
      · rw [upd_ne z] at q
        exact s12.free q
    generalize upd H2 e (.ins C dx (putF "_tables" (.ref p) [])) = H3 at hp3 hts3 he3 old3 none3 ⊢
    refine ⟨_, rfl, p, rfl, ⟨_, hp3⟩, fun R hR => ?_⟩
    have field3 : ∀ {G : Hp} {i : Nat} {y : V}, Same H3 G → ws[i]? = some y → ∃ ti a dx2 fs, ts[i]? = some ti ∧ y = V.ref a ∧ G a = some (.ins CT dx2 fs) ∧ fs.lookup ("name" : Str) = some (V.str ti.nm) := fun {G i y} s2 hi => by
      obtain ⟨ti, et, a, rfl, tb⟩ := each_get hts3 hi
      obtain ⟨dx2, a2, a3, a4, ha, _⟩ := (tb.same s2).ex
      exact ⟨ti, a, dx2, _, et, rfl, ha, rfl⟩
    refine dc_tup (K := K) (a := p) (xs := ws) (fun i H' => Same H3 H' ∧ ∃ qs, H' R = some (.dK (kvsOf (ts.take i) qs)) ∧ qs.length = i ∧ RTups H' qs (List.replicate i [])) ⟨same_upd hR, [], upd_same, rfl, .nil⟩ (fun i H' _ z => sameT z.1 hp3) ?_ ?_
    · rintro i y H4 hi ⟨s4, qs, e4, lq, rt⟩
      refine ⟨rfl, ?_⟩
      dsimp only [tYes]
      rw [if_pos rfl]
      obtain ⟨ti, a, dx2, fs, et, rfl, ha, hf⟩ := field3 s4 hi
      have li := (List.getElem?_eq_some_iff.mp hi).1
      refine ⟨_, rfl, a, CT, dx2, fs, _, rfl, ha, U.cl, U.n1, hf, by show 0 ≤ sizeLine; omega, fun q o hq hod => ?_⟩
      have qR : R ≠ q := fun z => by
        rw [← z, e4] at hq
        cases hq
      have sq := same_upd (o := .frz o (.tup [])) hq
      refine ⟨_, Sum.inr ti.nm, rfl, sq _ _ e4, ?_, fun b u eu => ?_, qs ++ [q], ?_, by rw [List.length_append, lq]; rfl, ?_⟩
      · unfold kvsOf
        rw [List.length_zipWith]
        omega
      · rw [upd_ne (ne_of_none eu hR)]
        exact sq _ _ (s4 b u eu)
      · rw [upd_same, kvs_next nd et lq]
      · have fz : Fz H4 (upd (upd H4 q (.frz o (.tup []))) R (.dK (putK (kvsOf (ts.take i) qs) (Sum.inr ti.nm) (.ref q)))) := fun b ob xs eb => by
          rw [upd_ne fun z => by rw [z, e4] at eb; cases eb]
          exact sq _ _ eb
        rw [List.replicate_succ']
        refine each_append (rt.mono fun _ _ z => z.keep fz) (.cons ⟨o, [], ?_, hod, .nil⟩ .nil)
        rw [upd_ne qR.symm, upd_same]
    · rintro H4 ⟨s4, qs, e4, lq, rt⟩
      rw [lw, List.take_length] at e4
      rw [lw] at lq rt
      refine ⟨_, rfl, e, C, dx, _, rfl, s4 _ _ he3, S.cl, S.nR, by show 1 < 1000; decide, ?_⟩
      have he4 := s4 _ _ he3
      have hR0 : H R = none := none3 R hR
      have Re : R ≠ e := fun z => by
        rw [z, he] at hR0
        cases hR0
      have fz5 : Fz H4 (upd H4 e (.ins C dx (putF "_rows" (.ref R) [("_tables", .ref p)]))) := fun b ob xs eb => by
        rw [upd_ne fun z => by rw [z, he4] at eb; cases eb]
        exact eb
      refine k _ R qs (fun b o n eb => ?_) hR0 ⟨upd_same, keepT he4 (sameT s4 hp3), ?_, ?_, ?_, lq, nd, l3⟩
      · rw [upd_ne n]
        exact s4 _ _ (old3 b o n eb)
      · have m : ∀ {vs : List V} {us : List Ti}, (∀ v ∈ vs, v ∈ ws) → TbsAt K H4 CT vs us → TbsAt K (upd H4 e (.ins C dx (putF "_rows" (.ref R) [("_tables", .ref p)]))) CT vs us := by
          intro vs us sub z
          induction z with
          | nil => exact .nil
          | cons a _ ih => exact .cons (keepB he4 (nE _ (sub _ List.mem_cons_self)) a) (ih fun v hv => sub v (List.mem_cons_of_mem _ hv))
        exact m (fun _ h => h) (tbs_same hts3 s4)
      · rw [upd_ne Re]
        exact e4
      · have e6 : (ts.map fun _ => ([] : List Row)) = List.replicate ts.length [] := by
          rw [List.map_const']
        rw [e6]
        exact rt.mono fun _ _ z => z.keep fz5
  have kb := kb good
  have big : sizeLine > 1000 := by decide
  have sb : scanBound > 100 := by decide
  have bad : ∀ H', Same H H' → ∀ a, H' a = none → ∃ (a' : Addr) (cls : Value), V.ref a = .ref a' ∧ upd H' a (ExO (.ref CZ) a) a' = some (ExO cls a') ∧ Fr0 H a' ∧
      Raises (cxOf (L2.CX P w) P w K mg base ["self", "tables", "table"] "Store.__init__" (defScope sSInit) f cdv A outer s H E) cls ∧ E cls none (delH (upd H' a (ExO (.ref CZ) a)) a') := fun H' s' a na => by
    refine ⟨a, .ref CZ, rfl, upd_same, fr0_none (s'.free na), raises_own Z.b Z.t, ?_⟩
    rw [delH_new na]
    exact kb H' s'
  have lw : ws.length = its.length := hits.length
  refine ⟨_, rfl, p, _, rfl, .inr hp, _, _, rfl, rfl, _, rfl, ?_⟩
  by_cases c1 : (1 : Int) ≤ ((ws.length : Nat) : Int)
  · rw [decide_eq_true c1]
    refine iteT ⟨C, mc, .int 3, uM, rfl, cr, cv, _, _, rfl, rfl, _, rfl, ?_⟩
    by_cases c2 : ((ws.length : Nat) : Int) ≤ 3
    · rw [decide_eq_true c2]
      refine iteF ?_
      -- all tables
      refine ⟨_, rfl, p, rfl, ⟨_, hp⟩, fun D hD => ?_⟩
      refine lc_tup (K := K) (a := p) (xs := ws) (fun i H' => Same H H' ∧ H' D = some (.lst (((its.take i).map Option.isSome).map V.bl))) ⟨same_upd hD, upd_same⟩ (fun i H' _ z => sameT z.1 hp) ?_ ?_
      · rintro i y H2 hi ⟨s2, e2⟩
        refine ⟨rfl, ?_⟩
        dsimp only [tYes]
        rw [if_pos rfl]
        obtain ⟨it, et, hit⟩ := each_get hits hi
        have fin : ∀ b, it.isSome = b → ∃ acc, H2 D = some (.lst acc) ∧ acc.length < sizeLine ∧ (Same H (upd H2 D (.lst (acc ++ [V.bl b]))) ∧ (upd H2 D (.lst (acc ++ [V.bl b]))) D = some (.lst (((its.take (i + 1)).map Option.isSome).map V.bl))) := fun b eb => by
          refine ⟨_, e2, ?_, fun c u ec => ?_, ?_⟩
          · rw [List.length_map, List.length_map, List.length_take]
            omega
          · rw [upd_ne (ne_of_none ec hD)]
            exact s2 c u ec
          · rw [upd_same, List.take_add_one, et]
            simp [eb]
        cases it with
        | some ti =>
          obtain ⟨a, rfl, tb⟩ := hit
          obtain ⟨dx2, a2, a3, a4, ha, _⟩ := (tb.same s2).ex
          exact ⟨_, rfl, .ref a, _, _, _, true, rfl, .own _, .base (.ins ha U.cl O.ca O.cn O.ct O.mo), O.kC, fin true rfl⟩
        | none =>
          obtain ⟨t, ty⟩ := hit
          exact ⟨_, rfl, y, _, _, _, false, rfl, .own _, ty H2 s2, O.kT t, fin false rfl⟩
      rintro H1 ⟨s1, e1⟩
      rw [lw, List.take_length] at e1
      refine ⟨D, _, rfl, SqL.of e1, _, rfl, ?_⟩
      cases al : (its.map Option.isSome).all id with
      | false => exact iteT (bad H1 s1)
      | true =>
        refine iteF ?_
        obtain ⟨ts, rfl⟩ := all_some al
        rw [List.length_map] at lw
        have hts := its_tbs hits
        -- some names are the same
        refine ⟨_, rfl, p, rfl, ⟨_, sameT s1 hp⟩, fun B hB => ?_⟩
        refine sck_tup (K := K) (a := p) (xs := ws) (fun i H' => Same H1 H' ∧ H' B = some (SetK P w B (namesB ts i) (difs ((ts.take i).map Ti.nm)).length)) ⟨same_upd hB, ?_⟩ (fun i H' _ z => sameT (s1.trans z.1) hp) ?_ ?_
        · rw [upd_same]
          congr 2
          funext j
          cases j <;> rfl
        · rintro i y H2 hi ⟨s2, e2⟩
          refine ⟨rfl, ?_⟩
          obtain ⟨ti, et, a, rfl, tb⟩ := each_get hts hi
          obtain ⟨dx2, a2, a3, a4, ha, _⟩ := (tb.same (s1.trans s2)).ex
          have li := (List.getElem?_eq_some_iff.mp hi).1
          have l2 : (difs ((ts.take i).map Ti.nm)).length ≤ 10 := by
            have := (difs_len ((ts.take i).map Ti.nm)).1
            rw [List.length_map, List.length_take] at this
            omega
          refine ⟨_, rfl, a, CT, dx2, _, _, rfl, ha, U.cl, U.n1, rfl, Sum.inr ti.nm, namesB ts i, _, rfl, e2, by omega, fun b u eu => ?_, ?_⟩
          · rw [upd_ne (ne_of_none eu hB)]
            exact s2 b u eu
          · rw [upd_same, names_succ et]
            have e3 : (ts.take (i + 1)).map Ti.nm = (ts.take i).map Ti.nm ++ [ti.nm] := by
              rw [List.take_add_one, et, List.map_append]
              rfl
            have e4 : namesB ts i (Sum.inr ti.nm) = decide (ti.nm ∈ difs ((ts.take i).map Ti.nm)) := by
              rw [Bool.eq_iff_iff, decide_eq_true_iff, difs_mem]
              show ((ts.take i).any fun t => t.nm == ti.nm) = true ↔ _
              rw [List.any_eq_true, List.mem_map]
              exact ⟨fun ⟨t, m, h⟩ => ⟨t, m, beq_iff_eq.mp h⟩, fun ⟨t, m, h⟩ => ⟨t, m, beq_iff_eq.mpr h⟩⟩
            rw [e3, difs_snoc, e4]
            by_cases h : ti.nm ∈ difs ((ts.take i).map Ti.nm)
            · rw [if_pos h, if_pos (decide_eq_true h)]
              rfl
            · rw [if_neg h, if_neg (by rw [decide_eq_false h]; decide), List.length_append]
              rfl
        rintro H2 ⟨s2, e2⟩
        have s12 := s1.trans s2
        rw [lw, List.take_length] at e2
        have l2 := difs_len (ts.map Ti.nm)
        rw [List.length_map] at l2
        refine ⟨B, _, _, rfl, e2, by omega, ?_⟩
        refine ⟨_, rfl, p, _, rfl, .inr (sameT s12 hp), rfl, _, rfl, ?_⟩
        have ne : ¬ ((difs (ts.map Ti.nm)).length = ws.length) := fun q => good ⟨ts, rfl, by omega, by omega, l2.2 (by omega)⟩
        have e5 : decide (V.int (((difs (ts.map Ti.nm)).length : Nat) : Int) = V.int ((ws.length : Nat) : Int)) = false := decide_eq_false fun q => ne (by
          have := V.int.inj q
          omega)
        rw [e5]
        exact iteT (bad H2 s12)
    · rw [decide_eq_false c2]
      exact iteT (bad H (Same.refl H))
  · rw [decide_eq_false c1]
    refine iteF ⟨_, rfl, ?_⟩
    exact iteT (iteT (bad H (Same.refl H)))
end
end Vm
/-! the law: columns -/
namespace Vm
open PySem L2
abbrev sColumnsL : Stmt := top 44
theorem But.put {s l : Addr} {H H2 : Hp} {D : Addr} {u : HO} (k : But s l H H2) (hD : H D = none) : But s l H (L2.upd H2 D u) := fun c o n1 n2 e => by
  rw [upd_ne fun q => by rw [q, hD] at e; exact nomatch e]
  exact k c o n1 n2 e
theorem Src.put {s l : Addr} {H : Hp} {ms : List Int} {z b : Int} {D : Addr} {u : HO} (h : Src H s l ms z b) (off : Off s l D) : Src (L2.upd H D u) s l ms z b := ⟨by
  rw [upd_ne off.1.symm]
  exact h.hs, by
  rw [upd_ne off.2.symm]
  exact h.hl, h.len⟩
/-- len of a list or a tuple -/
def rLenS (K : PySem.W.Frag) : List V → Hp → VK → Prop := fun xs H Q => ∃ p ys, xs = [.ref p] ∧ (SqL K H p ys ∨ SqT K H p ys) ∧ Q (.int ys.length) H
def tenC : List Str := ["a", "b", "ab", "p", "names", "key", "row", "old", "abcdefgh", "abcdefgz"]
def moreC : Str := "cdefghijklmnoqrstuvwxyz"
theorem tenC_nm : tenC.all nmS = true := by decide +kernel
theorem moreC_ok : (moreC.cps.toList.all fun c => nmS ⟨#[c]⟩ && !tenC.any (· == ⟨#[c]⟩)) = true := by decide +kernel
theorem tenC_nd : tenC.Nodup := by decide +kernel
theorem map_eraseIdx2 {α β : Type} (f : α → β) : ∀ (xs : List α) (j : Nat), (xs.map f).eraseIdx j = (xs.eraseIdx j).map f
  | [], _ => rfl
  | _ :: _, 0 => rfl
  | x :: r, j + 1 => congrArg (f x :: ·) (map_eraseIdx2 f r j)
theorem erase_perm {α : Type} : ∀ (xs : List α) (j : Nat) (h : j < xs.length), (xs[j] :: xs.eraseIdx j).Perm xs
  | [], _, h => absurd h (Nat.not_lt_zero _)
  | _ :: _, 0, _ => List.Perm.refl _
  | x :: r, j + 1, h => (List.Perm.swap _ _ _).trans ((erase_perm r j (Nat.lt_of_succ_lt_succ h)).cons x)
def spColumnsL : Sp := fun vs H Q _ => ∃ (s l : Addr) (ms : List Int) (z b m : Int), vs = [.ref s, .int m] ∧ Src H s l ms z b ∧ 0 ≤ b ∧ b < 900000 ∧ 1 ≤ m ∧ m ≤ 4 ∧
  ∀ (H' : Hp) (ms' : List Int) (b' : Int) (p : Addr) (cs : List Str), But s l H H' → Src H' s l ms' z b' → b ≤ b' → b' ≤ b + 5 → H p = none → H' p = some (.lst (cs.map V.str)) → (cs.length : Int) = m → cs.Nodup → cs.all nmS = true → Q (.ref p) H'
section
variable {P : Program} {w : World} {K : PySem.W.Frag} {mg : Str → Option Value} {base : Heap} {fD fP : Addr}
theorem scColumnsL : FnScope ["_law_source_here", "_law_many", "_law_left", "_law_k"] ["_law_source_here", "_law_many"] (defScope sColumnsL) := ⟨rfl, rfl, rfl, by decide +kernel, rfl, by decide +kernel, by decide +kernel⟩
theorem ok_columnsl {f : Addr} {fd fdD fdP : FuncData} (F : Fun K "_law_columns" "_law_columns" sColumnsL f fd) (T : TxtL K mg fD fP) (GD : FnOk P w K mg base CX0 1 fD fdD ["_law_source_here", "_law_many"] spDraw) (bD : Binds K fdD ["_law_source_here", "_law_many"] [])
    (GP : FnOk P w K mg base CX0 2 fP fdP ["_law_source_here", "_law_items"] (spPick K)) (bP : Binds K fdP ["_law_source_here", "_law_items"] []) : FnOk P w K mg base CX0 3 f fd ["_law_source_here", "_law_many"] spColumnsL := by
  refine F.ok scColumnsL (fun vs H Q E h => ?_) (fun cdv A outer s H vs Q E hr h => ?_)
  · obtain ⟨s, l, ms, z, b, m, rfl, _⟩ := h
    rfl
  · obtain ⟨a, l, ms, z, b, m, rfl, hs, b0, b1, m1, m4, k⟩ := h
    have hr1 : Room 1 _ := hr.mono (by decide)
    refine ⟨_, pss_cons (ps_set (i := 2) scColumnsL.nd rfl (Or.inr rfl) (pe_lst (pa_cons pe_str (pa_cons pe_str (pa_cons pe_str (pa_cons pe_str (pa_cons pe_str (pa_cons pe_str (pa_cons pe_str (pa_cons pe_str (pa_cons pe_str (pa_cons pe_str pa_nil))))))))))))
      (pss_cons (ps_expr (pe_bm PySem.F.plainAttrs_list PySem.F.slot_list_append PySem.F.type_list_append mt_append (pv 2) (pa_cons (pe_call GP hr rfl T.gP T.kP bP .nil pass0 (pa_cons (pv 0) (pa_cons pe_str pa_nil))) pa_nil)))
      (pss_one (ps_ret (pe_lc (own := [("_law_k", 3)]) (g := gName 3) (tt := tYes) (te := tBM K "list" rPopAt (tVar 2) (tCons (tCall spDraw [] E0 (tCons (tVar 0) (tCons (tCB (rLenS K) (tCons (tVar 2) tNil)) tNil))) tNil)) rfl scColumnsL.nd (pi_range1 rfl T.range (pa_cons (pv 1) pa_nil))
          (blkOk_by (N := ["_law_source_here", "_law_many", "_law_left", "_law_k"]) (sc := defScope sColumnsL) (by decide +kernel)) (fun _ _ _ _ _ => pg_name (i := 3) scColumnsL.nd rfl (Or.inl rfl)) (fun _ _ _ _ _ => pts_nil)
          (fun _ _ _ _ _ => by exact (pe_bm PySem.F.plainAttrs_list PySem.F.slot_list_pop PySem.F.type_list_pop mt_popAt (pv 2) (pa_cons (pe_call GD hr1 rfl T.gD T.kD bD .nil pass0 (pa_cons (pv 0) (pa_cons (pe_callB call_len_seq (by rfl) T.len (by decide +kernel) (pa_cons (pv 2) pa_nil)) pa_nil))) pa_nil))))))), ?_⟩
    have big : sizeLine > 1000 := by decide
    refine ⟨by show 10 ≤ sizeLine; omega, fun L hL => ?_⟩
    obtain ⟨La, Ll⟩ := hs.free hL
    have k0 : But a l H (upd H L (.lst (tenC.map V.str))) := But.put (fun _ _ _ _ e => e) hL
    have hs0 : Src (upd H L (.lst (tenC.map V.str))) a l ms z b := hs.put ⟨La, Ll⟩
    have e0 : upd H L (.lst (tenC.map V.str)) L = some (.lst (tenC.map V.str)) := upd_same
    show tSeq _ _ _ _ (upd H L (.lst (tenC.map V.str)))
    generalize upd H L (.lst (tenC.map V.str)) = H0 at k0 hs0 e0 ⊢
    refine ⟨_, rfl, .inl ⟨rfl, _, SqL.of e0⟩, _, rfl, a, l, .str moreC, ms, z, b, rfl, hs0, by omega, by omega, .inr ⟨moreC, rfl, by decide +kernel, by decide +kernel, fun H1 ms1 c k1 hs1 hc => ?_⟩⟩
    have e1 := k1 _ _ La Ll e0
    have cc := List.all_eq_true.mp moreC_ok c hc
    rw [Bool.and_eq_true] at cc
    refine ⟨L, _, _, rfl, rfl, e1, by show 10 < sizeLine; omega, ?_⟩
    have k2 : But a l H (upd H1 L (.lst (tenC.map V.str ++ [V.str ⟨#[c]⟩]))) := (k0.trans k1).put hL
    have hs2 : Src (upd H1 L (.lst (tenC.map V.str ++ [V.str ⟨#[c]⟩]))) a l ms1 z (b + 1) := hs1.put ⟨La, Ll⟩
    have e2 : upd H1 L (.lst (tenC.map V.str ++ [V.str ⟨#[c]⟩])) L = some (.lst ((tenC ++ [(⟨#[c]⟩ : Str)]).map V.str)) := by
      rw [upd_same, List.map_append]
      rfl
    have nd : (tenC ++ [(⟨#[c]⟩ : Str)]).Nodup := by
      refine List.nodup_append.mpr ⟨tenC_nd, by simp, fun x hx y hy e => ?_⟩
      have n2 := cc.2
      rw [List.mem_singleton.mp hy] at e
      have : tenC.any (fun q => q == (⟨#[c]⟩ : Str)) = true := List.any_eq_true.mpr ⟨x, hx, beq_iff_eq.mpr e⟩
      have n3 : (!tenC.any (fun q => q == (⟨#[c]⟩ : Str))) = true := n2
      rw [this] at n3
      cases n3
    have nm : (tenC ++ [(⟨#[c]⟩ : Str)]).all nmS = true := by
      rw [List.all_append, tenC_nm, Bool.true_and]
      show (nmS ⟨#[c]⟩ && true) = true
      rw [cc.1]
      rfl
    have len : (tenC ++ [(⟨#[c]⟩ : Str)]).length = 11 := rfl
    show tSeq _ _ _ _ (upd H1 L (.lst (tenC.map V.str ++ [V.str ⟨#[c]⟩])))
    generalize upd H1 L (.lst (tenC.map V.str ++ [V.str ⟨#[c]⟩])) = H2 at k2 hs2 e2 ⊢
    generalize tenC ++ [(⟨#[c]⟩ : Str)] = all at e2 nd nm len
    refine ⟨_, rfl, m, rfl, by omega, by omega, fun D hD => ?_⟩
    obtain ⟨Da, Dl⟩ := hs2.free hD
    have hDH := k2.back hs2 hD
    have DL : D ≠ L := fun q => by
      rw [q, e2] at hD
      cases hD
    refine lc_range (lo := 0) (n := m.toNat) (fun i H' => ∃ (ms' : List Int) (left got : List Str), But a l H H' ∧ Src H' a l ms' z (b + 1 + (i : Int)) ∧ H' L = some (.lst (left.map V.str)) ∧ H' D = some (.lst (got.map V.str)) ∧ got.length = i ∧ left.length + i = 11 ∧ (left ++ got).Nodup ∧ (left ++ got).all nmS = true) ?_ ?_ ?_
    · refine ⟨ms1, all, [], k2.put hDH, ?_, ?_, upd_same, rfl, by rw [len], by rw [List.append_nil]; exact nd, by rw [List.append_nil]; exact nm⟩
      · rw [show b + 1 + ((0 : Nat) : Int) = b + 1 by omega]
        exact hs2.put ⟨Da, Dl⟩
      · rw [upd_ne DL.symm]
        exact e2
    · rintro i H3 hi ⟨ms3, left, got, k3, hs3, eL, eD, lg, ll, nd3, nm3⟩
      refine ⟨rfl, ?_⟩
      dsimp only [tYes]
      rw [if_pos rfl]
      refine ⟨_, rfl, .inl ⟨rfl, _, SqL.of eL⟩, _, rfl, _, rfl, L, _, rfl, .inl (SqL.of eL), a, l, ms3, z, b + 1 + (i : Int), ((left.map V.str).length : Nat), rfl, hs3, by rw [List.length_map]; omega, by rw [List.length_map]; omega, by omega, by omega, fun H4 ms4 r k4 hs4 r0 r1 => ?_⟩
      rw [List.length_map] at r1
      obtain ⟨j, rfl⟩ : ∃ j : Nat, r = (j : Int) := ⟨r.toNat, by omega⟩
      have hj : j < left.length := by omega
      have eL4 := k4 _ _ La Ll eL
      have eD4 := k4 _ _ Da Dl eD
      have ix : seqIndex? ((j : Nat) : Int) (left.map V.str).length = some j := by
        unfold seqIndex?
        rw [List.length_map]
        simp
        omega
      refine ⟨L, _, _, j, .str left[j], rfl, rfl, eL4, by omega, by omega, ix, by rw [List.getElem?_map, List.getElem?_eq_getElem hj]; rfl, ?_⟩
      have k5 := k3.trans k4
      refine ⟨got.map V.str, ?_, ?_, ms4, left.eraseIdx j, got ++ [left[j]], ?_, ?_, ?_, ?_, ?_, ?_, ?_, ?_⟩
      · rw [upd_ne DL]
        exact eD4
      · rw [List.length_map]
        omega
      · exact (k5.put hL).put hDH
      · rw [show b + 1 + ((i + 1 : Nat) : Int) = b + 1 + (i : Int) + 1 by omega]
        exact (hs4.put ⟨La, Ll⟩).put ⟨Da, Dl⟩
      · rw [upd_ne DL.symm, upd_same, map_eraseIdx2]
      · rw [upd_same, List.map_append]
        rfl
      · rw [List.length_append, lg]
        rfl
      · rw [List.length_eraseIdx, if_pos hj]
        omega
      · have pm : (left.eraseIdx j ++ (got ++ [left[j]])).Perm (left ++ got) := by
          have p1 : (left[j] :: left.eraseIdx j).Perm left := erase_perm left j hj
          have p2 : (left.eraseIdx j ++ (got ++ [left[j]])).Perm ((left[j] :: left.eraseIdx j) ++ got) := by
            rw [← List.append_assoc]
            refine List.perm_append_comm.trans ?_
            exact List.Perm.refl _
          exact p2.trans (List.Perm.append_right got p1)
        exact pm.nodup_iff.mpr nd3
      · rw [List.all_eq_true] at nm3 ⊢
        intro x hx
        refine nm3 x ?_
        rcases List.mem_append.mp hx with h | h
        · exact List.mem_append_left _ (List.mem_of_mem_eraseIdx h)
        · rcases List.mem_append.mp h with h | h
          · exact List.mem_append_right _ h
          · rw [List.mem_singleton.mp h]
            exact List.mem_append_left _ (List.getElem_mem hj)
    · rintro H3 ⟨ms3, left, got, k3, hs3, eL, eD, lg, ll, nd3, nm3⟩
      rw [List.all_append, Bool.and_eq_true] at nm3
      exact k H3 ms3 _ D got k3 hs3 (by omega) (by omega) hDH eD (by omega) (List.nodup_append.mp nd3).2.1 nm3.2
end
end Vm
/-! the law: arguments of a table -/
namespace Vm
open PySem L2
abbrev sArgs : Stmt := top 45
theorem TupS.fz {H H' : Hp} {c : Addr} {ss : List Str} (k : Fz H H') (h : TupS H c ss) : TupS H' c ss := let ⟨o, h, d⟩ := h; ⟨o, k _ _ _ h, d⟩
/-- the four arguments of a table stand at sm -/
def ArgT (H : Hp) (sm : Addr) (t : Ti) : Prop := ∃ (o : Obj) (a1 a2 a3 : Addr), H sm = some (.frz o (.tup [.str t.nm, .ref a1, .ref a2, .ref a3])) ∧ o.dict = none ∧ TupS H a1 t.ss ∧ TupS H a2 t.zs ∧ TupS H a3 t.ks
theorem ArgT.fz {H H' : Hp} {sm : Addr} {t : Ti} (k : Fz H H') (h : ArgT H sm t) : ArgT H' sm t := let ⟨o, a1, a2, a3, h0, d, h1, h2, h3⟩ := h; ⟨o, a1, a2, a3, k _ _ _ h0, d, h1.fz k, h2.fz k, h3.fz k⟩
/-- right arguments -/
structure TiOk (t : Ti) : Prop where
  g : t.ok
  kf : t.ks = t.cols.filter fun z => t.ks.any (· == z)
/-- some of the columns, in their order -/
theorem sub_filter {cs es : List Str} (nd : cs.Nodup) (h : es.Sublist cs) : es = cs.filter fun z => es.any (· == z) := by
  have e : es = cs.filter fun z => decide (z ∈ es) := by
    induction h with
    | slnil => rfl
    | @cons l1 l2 a s ih =>
      rw [List.nodup_cons] at nd
      have na : a ∉ l1 := fun m => nd.1 (s.subset m)
      rw [List.filter_cons, if_neg (by rw [decide_eq_false na]; decide)]
      exact ih nd.2
    | @cons_cons l1 l2 a s ih =>
      rw [List.nodup_cons] at nd
      rw [List.filter_cons, if_pos (by rw [decide_eq_true List.mem_cons_self])]
      congr 1
      have ih' := ih nd.2
      have q : (l2.filter fun z => decide (z ∈ a :: l1)) = l2.filter fun z => decide (z ∈ l1) := by
        refine List.filter_congr fun x hx => decide_eq_decide.mpr ?_
        rw [List.mem_cons]
        exact ⟨fun m => m.resolve_left fun e => nd.1 (e ▸ hx), Or.inr⟩
      rw [q]
      exact ih'
  have f : (fun z => es.any (· == z)) = fun z => decide (z ∈ es) := by
    funext z
    rw [Bool.eq_iff_iff, List.any_eq_true, decide_eq_true_eq]
    exact ⟨fun ⟨y, hy, e⟩ => (beq_iff_eq.mp e) ▸ hy, fun m => ⟨z, m, beq_self_eq_true z⟩⟩
  rw [f]
  exact e
def spArgs : Sp := fun vs H Q _ => ∃ (s l : Addr) (ms : List Int) (z b : Int) (nm : Str), vs = [.ref s, .str nm] ∧ Src H s l ms z b ∧ 0 ≤ b ∧ b < 800000 ∧ nmS nm = true ∧
  ∀ (H' : Hp) (ms' : List Int) (b' : Int) (p : Addr) (t : Ti), But s l H H' → Src H' s l ms' z b' → b ≤ b' → b' ≤ b + 20 → H p = none → ArgT H' p t → TiOk t → t.nm = nm → Q (.ref p) H'
section
variable {P : Program} {w : World} {K : PySem.W.Frag} {mg : Str → Option Value} {base : Heap} {fD fP fC : Addr}
theorem scArgs : FnScope ["_law_source_here", "_law_name", "_law_many", "_law_columns_here", "_law_split", "_law_key_here", "_law_column"] ["_law_source_here", "_law_name"] (defScope sArgs) := ⟨rfl, rfl, rfl, by decide +kernel, rfl, by decide +kernel, by decide +kernel⟩
theorem ok_args {f : Addr} {fd fdD fdC : FuncData} (F : Fun K "_law_arguments" "_law_arguments" sArgs f fd) (T : TxtL K mg fD fP) (min : mg "min" = none) (max : mg "max" = none) (GD : FnOk P w K mg base CX0 1 fD fdD ["_law_source_here", "_law_many"] spDraw) (bD : Binds K fdD ["_law_source_here", "_law_many"] [])
    (cC : Calls K mg "_law_columns" fC) (GC : FnOk P w K mg base CX0 3 fC fdC ["_law_source_here", "_law_many"] spColumnsL) (bC : Binds K fdC ["_law_source_here", "_law_many"] []) : FnOk P w K mg base CX0 4 f fd ["_law_source_here", "_law_name"] spArgs := by
  refine F.ok scArgs (fun vs H Q E h => ?_) (fun cdv A outer s H vs Q E hr h => ?_)
  · obtain ⟨s, l, ms, z, b, nm, rfl, _⟩ := h
    rfl
  · obtain ⟨a, l, ms, z, b, nm, rfl, hs, b0, b1, nn, k⟩ := h
    have hr1 : Room 1 _ := hr.mono (by decide)
    refine ⟨_, pss_cons (ps_set (i := 2) scArgs.nd rfl (Or.inl rfl) (pe_op op_add pe_int (pe_call GD hr1 rfl T.gD T.kD bD .nil pass0 (pa_cons (pv 0) (pa_cons pe_int pa_nil)))))
      (pss_cons (ps_set (i := 3) scArgs.nd rfl (Or.inl rfl) (pe_call GC hr rfl cC.g cC.k bC .nil pass0 (pa_cons (pv 0) (pa_cons (pv 2) pa_nil))))
      (pss_cons (ps_set (i := 4) scArgs.nd rfl (Or.inl rfl) (pe_callB (call_max2 rfl) (by rfl) max (by decide +kernel) (pa_cons (pe_op op_sub (pv 2) pe_int)
        (pa_cons (pe_callB (call_min2 rfl) (by rfl) min (by decide +kernel) (pa_cons pe_int (pa_cons (pe_call GD hr1 rfl T.gD T.kD bD .nil pass0 (pa_cons (pv 0) (pa_cons (pe_op op_add (pv 2) pe_int) pa_nil))) pa_nil))) pa_nil))))
      (pss_cons (ps_set (i := 5) scArgs.nd rfl (Or.inl rfl) (pe_op op_rep (pe_lc (own := [("_law_column", 6)]) (g := gName 6) (te := tVar 6) rfl scArgs.nd (pi_list (pv 3))
            (blkOk_by (N := ["_law_source_here", "_law_name", "_law_many", "_law_columns_here", "_law_split", "_law_key_here", "_law_column"]) (sc := defScope sArgs) (by decide +kernel))
            (fun _ _ _ _ _ => pg_name (i := 6) scArgs.nd rfl (Or.inl rfl)) (fun _ _ _ _ _ => pts_one (pt_cmpR op_eq (pe_call GD hr1 rfl T.gD T.kD bD .nil pass0 (pa_cons (pv 0) (pa_cons pe_int pa_nil))) pe_int (nomark _))) (fun _ _ _ _ _ => by exact (pv 6)))
          (pe_call GD hr1 rfl T.gD T.kD bD .nil pass0 (pa_cons (pv 0) (pa_cons pe_int pa_nil)))))
      (pss_one (ps_ret (pe_tupF (pa_cons (pv 1)
        (pa_cons (pe_callTy call_tupleF (by rfl) T.tuple (by decide +kernel) (pa_cons (pe_slice sl_list (pv 3) po_none (po_some (pv 4))) pa_nil))
        (pa_cons (pe_callTy call_tupleF (by rfl) T.tuple (by decide +kernel) (pa_cons (pe_slice sl_list (pv 3) (po_some (pv 4)) po_none) pa_nil))
        (pa_cons (pe_callTy call_tupleF (by rfl) T.tuple (by decide +kernel) (pa_cons (pv 5) pa_nil)) pa_nil)))))))))), ?_⟩
    have big : sizeLine > 1000 := by decide
    refine ⟨_, rfl, a, l, ms, z, b, 4, rfl, hs, by decide, by decide, b0, by omega, fun H1 ms1 r1 k1 hs1 p1 q1 => ⟨_, _, rfl, rfl, ?_⟩⟩
    refine ⟨_, rfl, _, rfl, a, l, ms1, z, b + 1, 1 + r1, rfl, hs1, by omega, by omega, by omega, by omega, fun H2 ms2 b2 L cs k2 hs2 c1 c2 hL eL lc nd nc => ?_⟩
    have L1 := hs1.free hL
    have k12 := k1.trans k2
    refine ⟨_, rfl, _, _, rfl, rfl, _, rfl, _, rfl, _, _, rfl, rfl, a, l, ms2, z, b2, 1 + r1 + 1, rfl, hs2, by omega, by omega, by omega, by omega, fun H3 ms3 r2 k3 hs3 p2 q2 => ⟨_, _, rfl, _, _, rfl, ?_⟩⟩
    have e3 := k3 _ _ L1.1 L1.2 eL
    have k13 := k12.trans k3
    have spb : 1 + r1 - 2 ≤ (if (if r2 < 2 then r2 else 2) > 1 + r1 - 2 then (if r2 < 2 then r2 else 2) else 1 + r1 - 2) ∧ (if (if r2 < 2 then r2 else 2) > 1 + r1 - 2 then (if r2 < 2 then r2 else 2) else 1 + r1 - 2) ≤ 2 ∧ 0 ≤ (if (if r2 < 2 then r2 else 2) > 1 + r1 - 2 then (if r2 < 2 then r2 else 2) else 1 + r1 - 2) ∧ (if (if r2 < 2 then r2 else 2) > 1 + r1 - 2 then (if r2 < 2 then r2 else 2) else 1 + r1 - 2) ≤ 1 + r1 := by
      split <;> split <;> omega
    generalize (if (if r2 < 2 then r2 else 2) > 1 + r1 - 2 then (if r2 < 2 then r2 else 2) else 1 + r1 - 2) = sp at spb ⊢
    obtain ⟨n, rfl⟩ : ∃ n : Nat, sp = (n : Int) := ⟨sp.toNat, by omega⟩
    refine ⟨_, rfl, L, rfl, ⟨_, SqL.of e3⟩, fun D hD => ?_⟩
    have Do := hs3.free hD
    have hDH := k13.back hs3 hD
    have DL : D ≠ L := fun q => by
      rw [q, e3] at hD
      cases hD
    refine lc_list (K := K) (a := L) (xs := cs.map V.str) (fun j H' => ∃ (ms' : List Int) (es : List Str), But a l H H' ∧ Src H' a l ms' z (b2 + 1 + (j : Int)) ∧ H' D = some (.lst (es.map V.str)) ∧ es.Sublist (cs.take j) ∧ H' L = some (.lst (cs.map V.str))) ?_ (fun j H' _ ⟨_, _, _, _, _, _, q⟩ => SqL.of q) ?_ ?_
    · refine ⟨ms3, [], k13.put hDH, ?_, upd_same, List.nil_sublist _, ?_⟩
      · rw [show b2 + 1 + ((0 : Nat) : Int) = b2 + 1 by omega]
        exact hs3.put Do
      · rw [upd_ne DL.symm]
        exact e3
    · rintro j y H4 hj ⟨ms4, es, k4, hs4, e4, sub, eL4⟩
      obtain ⟨u, eu, rfl⟩ := map_at hj
      have jl : j < cs.length := (List.getElem?_eq_some_iff.mp eu).1
      have le : es.length ≤ j := by
        have := sub.length_le
        rw [List.length_take] at this
        omega
      refine ⟨rfl, _, rfl, a, l, ms4, z, b2 + 1 + (j : Int), 2, rfl, hs4, by decide, by decide, by omega, by omega, fun H5 ms5 r k5 hs5 p5 q5 => ⟨rfl, _, rfl, ?_⟩⟩
      have e5 := k5 _ _ Do.1 Do.2 e4
      have eL5 := k5 _ _ L1.1 L1.2 eL4
      have ej : b2 + 1 + ((j + 1 : Nat) : Int) = b2 + 1 + (j : Int) + 1 := by omega
      have tk : cs.take (j + 1) = cs.take j ++ [u] := by rw [List.take_add_one, eu]; rfl
      refine ite_ (fun _ => ?_) (fun _ => ?_)
      · refine ⟨_, rfl, _, e5, by rw [List.length_map]; omega, ms5, es ++ [u], (k4.trans k5).put hDH, ?_, ?_, ?_, ?_⟩
        · rw [ej]
          exact hs5.put Do
        · rw [upd_same, List.map_append]
          rfl
        · rw [tk]
          exact sub.append (List.Sublist.refl _)
        · rw [upd_ne DL.symm]
          exact eL5
      · refine ⟨ms5, es, k4.trans k5, by rw [ej]; exact hs5, e5, ?_, eL5⟩
        rw [tk]
        exact sub.trans (List.sublist_append_left _ _)
    rintro H4 ⟨ms4, es, k4, hs4, e4, sub, eL4⟩
    rw [List.length_map] at hs4 sub
    rw [List.take_length] at sub
    have les := sub.length_le
    refine ⟨_, rfl, a, l, ms4, z, b2 + 1 + (cs.length : Int), 2, rfl, hs4, by decide, by decide, by omega, by omega, fun H5 ms5 r3 k5 hs5 p5 q5 => ?_⟩
    have k15 := k4.trans k5
    have e5 := k5 _ _ Do.1 Do.2 e4
    have eL5 := k5 _ _ L1.1 L1.2 eL4
    obtain ⟨fs, efs, fsub⟩ : ∃ fs : List Str, (List.replicate r3.toNat (es.map V.str)).flatten = fs.map V.str ∧ fs.Sublist cs := by
      have r01 : r3.toNat = 0 ∨ r3.toNat = 1 := by omega
      rcases r01 with e | e
      · exact ⟨[], by rw [e]; rfl, List.nil_sublist _⟩
      · exact ⟨es, by rw [e, List.replicate_one, List.flatten_cons, List.flatten_nil, List.append_nil], sub⟩
    refine ⟨D, r3, _, rfl, rfl, e5, by omega, by omega, ?_, fun R hR => ?_⟩
    · rw [List.length_map]
      have r01 : r3.toNat = 0 ∨ r3.toNat = 1 := by omega
      rcases r01 with e | e <;> rw [e] <;> omega
    rw [efs]
    have Ro := hs5.free hR
    have hRH := k15.back hs5 hR
    have s5 := same_upd (o := .lst (fs.map V.str)) hR
    have k16 : But a l H (upd H5 R (.lst (fs.map V.str))) := k15.put hRH
    have hs6 : Src (upd H5 R (.lst (fs.map V.str))) a l ms5 z (b2 + 1 + (cs.length : Int) + 1) := hs5.put Ro
    have eL6 := s5 _ _ eL5
    have eR6 : upd H5 R (.lst (fs.map V.str)) R = some (.lst (fs.map V.str)) := upd_same
    show tSeq _ _ _ _ (upd H5 R (.lst (fs.map V.str)))
    generalize upd H5 R (.lst (fs.map V.str)) = H6 at k16 hs6 eL6 eR6 ⊢
    have cm1 : cutV (cs.map V.str) none (some (n : Int)) = (cs.take n).map V.str := by rw [cut_take, List.map_take]
    have cm2 : cutV (cs.map V.str) (some (n : Int)) none = (cs.drop n).map V.str := by rw [cut_drop, List.map_drop]
    refine ⟨_, rfl, _, rfl, _, rfl, _, rfl, L, _, rfl, SqL.of eL6, fun o1 ho1 => ⟨o1, _, rfl, SqL.of upd_same, fun t1 ob1 ht1 hd1 => ?_⟩⟩
    rw [cm1] at ht1 ⊢
    have s1 := (same_upd (o := .lst ((cs.take n).map V.str)) ho1).trans (same_upd (o := .frz ob1 (.tup ((cs.take n).map V.str))) ht1)
    have T1 : TupS (upd (upd H6 o1 (.lst ((cs.take n).map V.str))) t1 (.frz ob1 (.tup ((cs.take n).map V.str)))) t1 (cs.take n) := ⟨ob1, upd_same, hd1⟩
    show tCons _ _ _ _ _
    generalize upd (upd H6 o1 (.lst ((cs.take n).map V.str))) t1 (.frz ob1 (.tup ((cs.take n).map V.str))) = H7 at s1 T1 ⊢
    refine ⟨_, rfl, _, rfl, _, rfl, L, _, rfl, SqL.of (s1 _ _ eL6), fun o2 ho2 => ⟨o2, _, rfl, SqL.of upd_same, fun t2 ob2 ht2 hd2 => ?_⟩⟩
    rw [cm2] at ht2 ⊢
    have s2' := (same_upd (o := .lst ((cs.drop n).map V.str)) ho2).trans (same_upd (o := .frz ob2 (.tup ((cs.drop n).map V.str))) ht2)
    have T2 : TupS (upd (upd H7 o2 (.lst ((cs.drop n).map V.str))) t2 (.frz ob2 (.tup ((cs.drop n).map V.str)))) t2 (cs.drop n) := ⟨ob2, upd_same, hd2⟩
    have T1 := T1.same s2'
    have s2 := s1.trans s2'
    show tCons _ _ _ _ _
    generalize upd (upd H7 o2 (.lst ((cs.drop n).map V.str))) t2 (.frz ob2 (.tup ((cs.drop n).map V.str))) = H8 at s2 T1 T2 ⊢
    refine ⟨_, rfl, R, _, rfl, SqL.of (s2 _ _ eR6), fun t3 ob3 ht3 hd3 => ⟨by show 4 ≤ sizeLine; omega, fun q ob hq hd => ?_⟩⟩
    have s3' := same_upd (o := .frz ob3 (.tup (fs.map V.str))) ht3
    have T3 : TupS (upd H8 t3 (.frz ob3 (.tup (fs.map V.str)))) t3 fs := ⟨ob3, upd_same, hd3⟩
    have s4' := same_upd (o := .frz ob (.tup [V.str nm, .ref t1, .ref t2, .ref t3])) hq
    have s14 := (s2.trans s3').trans s4'
    have hs9 := hs6.but s14
    have k19 := k16.trans (.of_same (s := a) (l := l) s14)
    have hqH := (k16.trans (.of_same (s := a) (l := l) (s2.trans s3'))).back (hs6.but (s2.trans s3')) hq
    have sum := List.take_append_drop n cs
    have la := congrArg List.length sum
    rw [List.length_append, List.length_take, List.length_drop] at la
    refine k _ ms5 _ q ⟨nm, cs.take n, cs.drop n, fs⟩ k19 hs9 (by omega) (by omega) hqH ⟨ob, t1, t2, t3, upd_same, hd, T1.same (s3'.trans s4'), T2.same (s3'.trans s4'), T3.same s4'⟩ ⟨⟨nn, ?_, ?_, ?_, ?_, ?_, ?_, ?_, ?_, ?_⟩, ?_⟩ rfl
    · exact List.all_eq_true.mpr fun x hx => List.all_eq_true.mp nc x (List.mem_of_mem_take hx)
    · exact List.all_eq_true.mpr fun x hx => List.all_eq_true.mp nc x (List.mem_of_mem_drop hx)
    · exact List.all_eq_true.mpr fun x hx => List.all_eq_true.mp nc x (fsub.subset hx)
    · show (cs.take n).length ≤ 2
      rw [List.length_take]
      omega
    · show (cs.drop n).length ≤ 2
      rw [List.length_drop]
      omega
    · show fs.length ≤ 4
      have := fsub.length_le
      omega
    · show 0 < (cs.take n ++ cs.drop n).length
      rw [sum]
      omega
    · show (cs.take n ++ cs.drop n).Nodup
      rw [sum]
      exact nd
    · show ∀ x ∈ fs, x ∈ cs.take n ++ cs.drop n
      rw [sum]
      exact fun x hx => fsub.subset hx
    · show fs = (cs.take n ++ cs.drop n).filter fun z => fs.any (· == z)
      rw [sum]
      exact sub_filter nd fsub
end
end Vm
/-! the law's world -/
namespace Vm
open PySem L2
abbrev sWorld : Stmt := top 46
/-- a table's arguments and its rows -/
def PairAt (H : Hp) (p rl : Addr) (t : Ti) (rs : List Row) : Prop := ∃ (sm : Addr) (vs : List V), H p = some (.lst [.ref sm, .ref rl]) ∧ ArgT H sm t ∧ H rl = some (.lst vs) ∧ RowsAt H vs rs
theorem PairAt.keep {H H' : Hp} {p rl : Addr} {t : Ti} {rs : List Row} (h : PairAt H p rl t rs) (k1 : ∀ o, H p = some o → H' p = some o) (k2 : ∀ o, H rl = some o → H' rl = some o) (fz : Fz H H') : PairAt H' p rl t rs :=
  let ⟨sm, vs, a, b, c, d⟩ := h; ⟨sm, vs, k1 _ a, b.fz fz, k2 _ c, d.keep fz⟩
/-- a world stands at w -/
structure Wl (H : Hp) (w : Addr) (ps rls : List Addr) (ts : List Ti) (rss : List (List Row)) : Prop where
  hw : H w = some (.lst (ps.map V.ref))
  lp : ps.length = ts.length
  lr : rls.length = ts.length
  ls : rss.length = ts.length
  pr : ∀ (i : Nat) (p rl : Addr) (t : Ti) (rs : List Row), ps[i]? = some p → rls[i]? = some rl → ts[i]? = some t → rss[i]? = some rs → PairAt H p rl t rs
  nd : (w :: (ps ++ rls)).Nodup
theorem Wl.keep {H H' : Hp} {w : Addr} {ps rls : List Addr} {ts : List Ti} {rss : List (List Row)} (h : Wl H w ps rls ts rss) (k : ∀ b ∈ w :: (ps ++ rls), ∀ o, H b = some o → H' b = some o) (fz : Fz H H') : Wl H' w ps rls ts rss :=
  ⟨k _ List.mem_cons_self _ h.hw, h.lp, h.lr, h.ls, fun i p rl t rs e1 e2 e3 e4 => (h.pr i p rl t rs e1 e2 e3 e4).keep
    (fun o e => k p (List.mem_cons_of_mem _ (List.mem_append_left _ (List.mem_of_getElem? e1))) o e) (fun o e => k rl (List.mem_cons_of_mem _ (List.mem_append_right _ (List.mem_of_getElem? e2))) o e) fz, h.nd⟩
theorem Wl.same {H H' : Hp} {w : Addr} {ps rls : List Addr} {ts : List Ti} {rss : List (List Row)} (h : Wl H w ps rls ts rss) (k : Same H H') : Wl H' w ps rls ts rss := h.keep (fun b _ o e => k b o e) (.of_same k)
theorem Wl.at {H : Hp} {w : Addr} {ps rls : List Addr} {ts : List Ti} {rss : List (List Row)} (h : Wl H w ps rls ts rss) {i : Nat} (lt : i < ts.length) : ∃ p rl t rs, ps[i]? = some p ∧ rls[i]? = some rl ∧ ts[i]? = some t ∧ rss[i]? = some rs ∧ PairAt H p rl t rs := by
  have l1 : i < ps.length := by rw [h.lp]; exact lt
  have l2 : i < rls.length := by rw [h.lr]; exact lt
  have l4 : i < rss.length := by rw [h.ls]; exact lt
  exact ⟨_, _, _, _, List.getElem?_eq_getElem l1, List.getElem?_eq_getElem l2, List.getElem?_eq_getElem lt, List.getElem?_eq_getElem l4, h.pr i _ _ _ _ (List.getElem?_eq_getElem l1) (List.getElem?_eq_getElem l2) (List.getElem?_eq_getElem lt) (List.getElem?_eq_getElem l4)⟩
theorem Wl.there {H : Hp} {w : Addr} {ps rls : List Addr} {ts : List Ti} {rss : List (List Row)} (h : Wl H w ps rls ts rss) : ∀ b ∈ w :: (ps ++ rls), ∃ xs, H b = some (.lst xs) := by
  intro b m
  rcases List.mem_cons.mp m with e | m
  · exact ⟨_, e ▸ h.hw⟩
  · rcases List.mem_append.mp m with m | m
    · obtain ⟨i, e⟩ := List.mem_iff_getElem?.mp m
      have lt := (List.getElem?_eq_some_iff.mp e).1
      obtain ⟨p, rl, t, rs, e1, _, _, _, sm, vs, a, _⟩ := h.at (i := i) (by rw [← h.lp]; exact lt)
      rw [e] at e1
      cases e1
      exact ⟨_, a⟩
    · obtain ⟨i, e⟩ := List.mem_iff_getElem?.mp m
      have lt := (List.getElem?_eq_some_iff.mp e).1
      obtain ⟨p, rl, t, rs, _, e1, _, _, sm, vs, _, _, a, _⟩ := h.at (i := i) (by rw [← h.lr]; exact lt)
      rw [e] at e1
      cases e1
      exact ⟨_, a⟩
/-- one more table, without rows -/
theorem Wl.snoc {H H' : Hp} {w p rl sm : Addr} {ps rls : List Addr} {ts : List Ti} {rss : List (List Row)} {t : Ti} (h : Wl H w ps rls ts rss) (k : ∀ b ∈ ps ++ rls, ∀ o, H b = some o → H' b = some o) (fz : Fz H H') (hw : H' w = some (.lst ((ps ++ [p]).map V.ref)))
    (hp : H' p = some (.lst [.ref sm, .ref rl])) (ha : ArgT H' sm t) (hr : H' rl = some (.lst [])) (n1 : p ∉ w :: (ps ++ rls)) (n2 : rl ∉ w :: (ps ++ rls)) (n3 : p ≠ rl) : Wl H' w (ps ++ [p]) (rls ++ [rl]) (ts ++ [t]) (rss ++ [[]]) := by
  refine ⟨hw, by rw [List.length_append, List.length_append, h.lp]; rfl, by rw [List.length_append, List.length_append, h.lr]; rfl, by rw [List.length_append, List.length_append, h.ls]; rfl, ?_, ?_⟩
  · intro i p' rl' t' rs' e1 e2 e3 e4
    by_cases lt : i < ts.length
    · rw [List.getElem?_append_left (by rw [h.lp]; exact lt)] at e1
      rw [List.getElem?_append_left (by rw [h.lr]; exact lt)] at e2
      rw [List.getElem?_append_left lt] at e3
      rw [List.getElem?_append_left (by rw [h.ls]; exact lt)] at e4
      exact (h.pr i p' rl' t' rs' e1 e2 e3 e4).keep (fun o e => k p' (List.mem_append_left _ (List.mem_of_getElem? e1)) o e) (fun o e => k rl' (List.mem_append_right _ (List.mem_of_getElem? e2)) o e) fz
    · have l3 := (List.getElem?_eq_some_iff.mp e3).1
      rw [List.length_append] at l3
      have ei : i = ts.length := by
        have : ([t] : List Ti).length = 1 := rfl
        omega
      subst ei
      rw [List.getElem?_append_right (by rw [h.lp]; exact Nat.le_refl _), h.lp, Nat.sub_self] at e1
      rw [List.getElem?_append_right (by rw [h.lr]; exact Nat.le_refl _), h.lr, Nat.sub_self] at e2
      rw [List.getElem?_append_right (Nat.le_refl _), Nat.sub_self] at e3
      rw [List.getElem?_append_right (by rw [h.ls]; exact Nat.le_refl _), h.ls, Nat.sub_self] at e4
      obtain rfl := Option.some.inj e1
      obtain rfl := Option.some.inj e2
      obtain rfl := Option.some.inj e3
      obtain rfl := Option.some.inj e4
      exact ⟨sm, [], hp, ha, hr, .nil⟩
  · have nd := h.nd
    have pm : (w :: ((ps ++ [p]) ++ (rls ++ [rl]))).Perm (p :: rl :: (w :: (ps ++ rls))) := by
      have a1 : ((ps ++ [p]) ++ (rls ++ [rl])).Perm (p :: (ps ++ (rls ++ [rl]))) := by
        rw [List.append_assoc]
        exact List.perm_middle
      have a2 : (ps ++ (rls ++ [rl])).Perm (rl :: (ps ++ rls)) := by
        rw [← List.append_assoc]
        exact List.perm_append_singleton _ _
      have a3 := (a1.trans (a2.cons p)).cons w
      exact a3.trans ((List.Perm.swap _ _ _).trans ((List.Perm.swap _ _ _).cons p))
    rw [pm.nodup_iff, List.nodup_cons, List.nodup_cons]
    refine ⟨fun m => ?_, n2, nd⟩
    rcases List.mem_cons.mp m with e | m
    · exact n3 e
    · exact n1 m
def namesOf : List (List Str) := [["t", "s", "u"], ["row", "table", "names"], ["a", "ab", "abcdefgh"], ["z", "key", "b"]]
theorem namesOf_ok : ∀ ns ∈ namesOf, ns.length = 3 ∧ ns.Nodup ∧ ns.all nmS = true := by
  intro ns m
  unfold namesOf at m
  simp only [List.mem_cons, List.not_mem_nil, or_false] at m
  rcases m with e | e | e | e <;> subst e <;> exact ⟨rfl, by decide +kernel, by decide +kernel⟩
/-- the tables of a world -/
structure Wn (ts : List Ti) : Prop where
  nd : (ts.map Ti.nm).Nodup
  ok : ∀ t ∈ ts, TiOk t
  one : 1 ≤ ts.length
  few : ts.length ≤ 3
  src : ∀ t ∈ ts, t.nm ∈ namesOf.flatten
def spWorld : Sp := fun vs H Q _ => ∃ (s l : Addr) (ms : List Int) (z b : Int), vs = [.ref s] ∧ Src H s l ms z b ∧ 0 ≤ b ∧ b < 700000 ∧
  ∀ (H' : Hp) (ms' : List Int) (b' : Int) (w : Addr) (ps rls : List Addr) (ts : List Ti), But s l H H' → Src H' s l ms' z b' → b ≤ b' → b' ≤ b + 100 → Wl H' w ps rls ts (ts.map fun _ => []) → (∀ c ∈ w :: (ps ++ rls), Off s l c ∧ H c = none) → Wn ts → Q (.ref w) H'
section
variable {P : Program} {w : World} {K : PySem.W.Frag} {mg : Str → Option Value} {base : Heap} {fD fP fA : Addr}
theorem scWorld : FnScope ["_law_source_here", "_law_names", "_law_found", "_law_k"] ["_law_source_here"] (defScope sWorld) := ⟨rfl, rfl, rfl, by decide +kernel, rfl, by decide +kernel, by decide +kernel⟩
theorem ok_world {f : Addr} {fd fdD fdP fdA : FuncData} (F : Fun K "_law_world" "_law_world" sWorld f fd) (T : TxtL K mg fD fP) (GD : FnOk P w K mg base CX0 1 fD fdD ["_law_source_here", "_law_many"] spDraw) (bD : Binds K fdD ["_law_source_here", "_law_many"] [])
    (GP : FnOk P w K mg base CX0 2 fP fdP ["_law_source_here", "_law_items"] (spPick K)) (bP : Binds K fdP ["_law_source_here", "_law_items"] [])
    (cA : Calls K mg "_law_arguments" fA) (GA : FnOk P w K mg base CX0 4 fA fdA ["_law_source_here", "_law_name"] spArgs) (bA : Binds K fdA ["_law_source_here", "_law_name"] []) : FnOk P w K mg base CX0 5 f fd ["_law_source_here"] spWorld := by
  refine F.ok scWorld (fun vs H Q E h => ?_) (fun cdv A outer s H vs Q E hr h => ?_)
  · obtain ⟨s, l, ms, z, b, rfl, _⟩ := h
    rfl
  · obtain ⟨a, l, ms, z, b, rfl, hs, b0, b1, k⟩ := h
    have hr1 : Room 1 _ := hr.mono (by decide)
    have hr2 : Room 2 _ := hr.mono (by decide)
    refine ⟨_, pss_cons (ps_set (i := 1) scWorld.nd rfl (Or.inl rfl) (pe_call GP hr2 rfl T.gP T.kP bP .nil pass0 (pa_cons (pv 0) (pa_cons (pe_lst
        (pa_cons (pe_lst (pa_cons pe_str (pa_cons pe_str (pa_cons pe_str pa_nil)))) (pa_cons (pe_lst (pa_cons pe_str (pa_cons pe_str (pa_cons pe_str pa_nil)))) (pa_cons (pe_lst (pa_cons pe_str (pa_cons pe_str (pa_cons pe_str pa_nil)))) (pa_cons (pe_lst (pa_cons pe_str (pa_cons pe_str (pa_cons pe_str pa_nil)))) pa_nil))))) pa_nil))))
      (pss_cons (ps_set (i := 2) scWorld.nd rfl (Or.inl rfl) (pe_lst pa_nil))
      (pss_cons (ps_for PassesOwn.never rfl (pi_range1 rfl T.range (pa_cons (pe_op op_add pe_int (pe_call GD hr1 rfl T.gD T.kD bD .nil pass0 (pa_cons (pv 0) (pa_cons pe_int pa_nil)))) pa_nil)) (pg_name (i := 3) scWorld.nd rfl (Or.inl rfl))
        (pss_one (ps_expr (pe_bm PySem.F.plainAttrs_list PySem.F.slot_list_append PySem.F.type_list_append mt_append (pv 2)
          (pa_cons (pe_lst (pa_cons (pe_call GA hr rfl cA.g cA.k bA .nil pass0 (pa_cons (pv 0) (pa_cons (pe_ix ix_list (pv 1) (pv 3) (fun _ _ => rfl)) pa_nil))) (pa_cons (pe_lst pa_nil) pa_nil))) pa_nil)))))
      (pss_one (ps_ret (pv 2))))), ?_⟩
    have big : sizeLine > 1000 := by decide
    refine ⟨_, rfl, by show 3 ≤ sizeLine; omega, fun q1 h1 => ⟨by show 3 ≤ sizeLine; omega, fun q2 h2 => ⟨by show 3 ≤ sizeLine; omega, fun q3 h3 => ⟨by show 3 ≤ sizeLine; omega, fun q4 h4 => ⟨by show 4 ≤ sizeLine; omega, fun q5 h5 => ?_⟩⟩⟩⟩⟩
    obtain ⟨n1, n2, n3, n4, en⟩ : ∃ n1 n2 n3 n4 : List Str, namesOf = [n1, n2, n3, n4] := ⟨_, _, _, _, rfl⟩
    have c1 := same_upd (o := .lst [V.str "t", .str "s", .str "u"]) h1
    have c2 := same_upd (o := .lst [V.str "row", .str "table", .str "names"]) h2
    have c3 := same_upd (o := .lst [V.str "a", .str "ab", .str "abcdefgh"]) h3
    have c4 := same_upd (o := .lst [V.str "z", .str "key", .str "b"]) h4
    have c5 := same_upd (o := .lst [V.ref q1, .ref q2, .ref q3, .ref q4]) h5
    have f1 : Off a l q1 := hs.free h1
    have f2 : Off a l q2 := (hs.but c1).free h2
    have f3 : Off a l q3 := (hs.but (c1.trans c2)).free h3
    have f4 : Off a l q4 := (hs.but ((c1.trans c2).trans c3)).free h4
    have f5 : Off a l q5 := (hs.but (((c1.trans c2).trans c3).trans c4)).free h5
    have all : ∀ v ∈ [V.ref q1, .ref q2, .ref q3, .ref q4], ∃ q nl, v = V.ref q ∧ Off a l q ∧ (upd (upd (upd (upd (upd H q1 (.lst [V.str "t", .str "s", .str "u"])) q2 (.lst [V.str "row", .str "table", .str "names"])) q3 (.lst [V.str "a", .str "ab", .str "abcdefgh"])) q4 (.lst [V.str "z", .str "key", .str "b"])) q5 (.lst [V.ref q1, .ref q2, .ref q3, .ref q4])) q = some (.lst (nl.map V.str)) ∧ nl ∈ namesOf := by
      intro v m
      simp only [List.mem_cons, List.not_mem_nil, or_false] at m
      rcases m with e | e | e | e <;> subst e
      · exact ⟨q1, ["t", "s", "u"], rfl, f1, c5 _ _ (c4 _ _ (c3 _ _ (c2 _ _ upd_same))), List.mem_cons_self⟩
      · exact ⟨q2, ["row", "table", "names"], rfl, f2, c5 _ _ (c4 _ _ (c3 _ _ upd_same)), List.mem_cons_of_mem _ List.mem_cons_self⟩
      · exact ⟨q3, ["a", "ab", "abcdefgh"], rfl, f3, c5 _ _ (c4 _ _ upd_same), List.mem_cons_of_mem _ (List.mem_cons_of_mem _ List.mem_cons_self)⟩
      · exact ⟨q4, ["z", "key", "b"], rfl, f4, c5 _ _ upd_same, List.mem_cons_of_mem _ (List.mem_cons_of_mem _ (List.mem_cons_of_mem _ List.mem_cons_self))⟩
    have s5 : Same H (upd (upd (upd (upd (upd H q1 (.lst [V.str "t", .str "s", .str "u"])) q2 (.lst [V.str "row", .str "table", .str "names"])) q3 (.lst [V.str "a", .str "ab", .str "abcdefgh"])) q4 (.lst [V.str "z", .str "key", .str "b"])) q5 (.lst [V.ref q1, .ref q2, .ref q3, .ref q4])) := (((c1.trans c2).trans c3).trans c4).trans c5
    have e5 : (upd (upd (upd (upd (upd H q1 (.lst [V.str "t", .str "s", .str "u"])) q2 (.lst [V.str "row", .str "table", .str "names"])) q3 (.lst [V.str "a", .str "ab", .str "abcdefgh"])) q4 (.lst [V.str "z", .str "key", .str "b"])) q5 (.lst [V.ref q1, .ref q2, .ref q3, .ref q4])) q5 = some (.lst [V.ref q1, .ref q2, .ref q3, .ref q4]) := upd_same
    show spPick K [.ref a, .ref q5] (upd (upd (upd (upd (upd H q1 (.lst [V.str "t", .str "s", .str "u"])) q2 (.lst [V.str "row", .str "table", .str "names"])) q3 (.lst [V.str "a", .str "ab", .str "abcdefgh"])) q4 (.lst [V.str "z", .str "key", .str "b"])) q5 (.lst [V.ref q1, .ref q2, .ref q3, .ref q4])) _ E0
    generalize (upd (upd (upd (upd (upd H q1 (.lst [V.str "t", .str "s", .str "u"])) q2 (.lst [V.str "row", .str "table", .str "names"])) q3 (.lst [V.str "a", .str "ab", .str "abcdefgh"])) q4 (.lst [V.str "z", .str "key", .str "b"])) q5 (.lst [V.ref q1, .ref q2, .ref q3, .ref q4])) = H5 at all s5 e5 ⊢
    refine ⟨a, l, .ref q5, ms, z, b, rfl, hs.but s5, by omega, by omega, .inl ⟨q5, _, rfl, fun H' kk => SqL.of (kk _ _ f5.1 f5.2 e5), by show 0 < 4; decide, by show 4 ≤ 1000; decide, fun H6 ms6 v k6 hs6 hv => ?_⟩⟩
    obtain ⟨q, nl, rfl, fq, eq, mem⟩ := all v hv
    obtain ⟨l3, nd, nm⟩ := namesOf_ok nl mem
    have k06 : But a l H H6 := (But.of_same s5).trans k6
    have eq6 := k6 _ _ fq.1 fq.2 eq
    refine ⟨by show 0 ≤ sizeLine; omega, fun W hW => ?_⟩
    have fW : Off a l W := hs6.free hW
    have hWH := k06.back hs6 hW
    have Wq : W ≠ q := fun e => by
      rw [e, eq6] at hW
      cases hW
    refine ⟨_, rfl, a, l, ms6, z, b + 1, 3, rfl, hs6.put fW, by decide, by decide, by omega, by omega, fun H7 ms7 r k7 hs7 p7 q7 => ?_⟩
    have eW7 : H7 W = some (.lst []) := k7 _ _ fW.1 fW.2 upd_same
    have eq7 : H7 q = some (.lst (nl.map V.str)) := k7 _ _ fq.1 fq.2 (by rw [upd_ne Wq.symm]; exact eq6)
    have k07 : But a l H H7 := (k06.put hWH).trans k7
    refine ⟨_, _, rfl, rfl, 1 + r, rfl, by omega, by omega, for_range (lo := 0) (n := (1 + r).toNat) (fun i σ H' => ∃ (ms' : List Int) (b' : Int) (v3 : Option V) (ps rls : List Addr) (ts : List Ti), σ = [some (.ref a), some (.ref q), some (.ref W), v3] ∧ But a l H H' ∧ Src H' a l ms' z b' ∧ b ≤ b' ∧ b' ≤ b + 2 + 20 * (i : Int) ∧
      Wl H' W ps rls ts (ts.map fun _ => []) ∧ (∀ c ∈ W :: (ps ++ rls), Off a l c ∧ H c = none) ∧ ts.map Ti.nm = nl.take i ∧ (∀ t ∈ ts, TiOk t) ∧ H' q = some (.lst (nl.map V.str))) ?_ ?_ ?_⟩
    · refine ⟨ms7, _, none, [], [], [], rfl, k07, hs7, by omega, by omega, ⟨eW7, rfl, rfl, rfl, (fun i p rl t rs e => nomatch e), by simp⟩, fun c m => ?_, rfl, (fun t m => nomatch m), eq7⟩
      rw [List.mem_singleton.mp m]
      exact ⟨fW, hWH⟩
    · rintro i σ H8 hi ⟨ms8, b8, v3, ps, rls, ts, rfl, k8, hs8, c81, c82, wl, off, nmt, okt, eq8⟩
      have i3 : i < 3 := by omega
      have il : i < nl.length := by omega
      have lts : ts.length = i := by
        have := congrArg List.length nmt
        rw [List.length_map, List.length_take] at this
        omega
      refine ⟨_, rfl, .inl ⟨rfl, _, SqL.of wl.hw⟩, _, rfl, _, rfl, _, rfl, q, _, _, .str nl[i], rfl, rfl, SqL.of eq8, ?_, a, l, ms8, z, b8, nl[i], rfl, hs8, by omega, by omega, List.all_eq_true.mp nm _ (List.getElem_mem il), fun H9 ms9 b9 sm t k9 hs9 c91 c92 hsm at9 tok tnm => ?_⟩
      · rw [Int.zero_add]
        exact atI_nat (by rw [List.getElem?_map, List.getElem?_eq_getElem il]; rfl)
      have k09 := k8.trans k9
      refine ⟨by show 0 ≤ sizeLine; omega, fun rl hrl => ⟨by show 2 ≤ sizeLine; omega, fun p hp => ?_⟩⟩
      have frl : Off a l rl := hs9.free hrl
      have hrlH := k09.back hs9 hrl
      have s10 := same_upd (o := .lst []) hrl
      have fp : Off a l p := (hs9.but s10).free hp
      have hp9 : H9 p = none := s10.free hp
      have hpH := k09.back hs9 hp9
      have prl : p ≠ rl := fun e => by
        rw [e, upd_same] at hp
        cases hp
      have s11 := same_upd (o := .lst [V.ref sm, .ref rl]) hp
      have kp9 : ∀ c ∈ W :: (ps ++ rls), ∀ o, H8 c = some o → H9 c = some o := fun c m o e => k9 _ _ (off c m).1.1 (off c m).1.2 e
      have wl9 := wl.keep kp9 (k9.fz hs8)
      have np : p ∉ W :: (ps ++ rls) := fun m => by
        obtain ⟨xs, e⟩ := wl9.there p m
        rw [hp9] at e
        cases e
      have nrl : rl ∉ W :: (ps ++ rls) := fun m => by
        obtain ⟨xs, e⟩ := wl9.there rl m
        rw [hrl] at e
        cases e
      have Wp : W ≠ p := fun e => np (e ▸ List.mem_cons_self)
      have Wrl : W ≠ rl := fun e => nrl (e ▸ List.mem_cons_self)
      have s9 := s10.trans s11
      refine ⟨W, _, _, rfl, rfl, s9 _ _ wl9.hw, by rw [List.length_map, wl.lp]; omega, ?_⟩
      have k12 : But a l H (upd (upd (upd H9 rl (.lst [])) p (.lst [V.ref sm, .ref rl])) W (.lst (ps.map V.ref ++ [V.ref p]))) := ((k09.put hrlH).put hpH).put hWH
      have hs12 : Src (upd (upd (upd H9 rl (.lst [])) p (.lst [V.ref sm, .ref rl])) W (.lst (ps.map V.ref ++ [V.ref p]))) a l ms9 z b9 := ((hs9.put frl).put fp).put fW
      have fz12 : Fz H9 (upd (upd (upd H9 rl (.lst [])) p (.lst [V.ref sm, .ref rl])) W (.lst (ps.map V.ref ++ [V.ref p]))) := fun c o xs e => by
        rw [upd_ne fun z => by rw [z, wl9.hw] at e; cases e]
        exact s9 _ _ e
      have nW : ∀ c ∈ ps ++ rls, c ≠ W := fun c m e => (List.nodup_cons.mp wl.nd).1 (e ▸ m)
      refine ⟨ms9, b9, _, ps ++ [p], rls ++ [rl], ts ++ [t], rfl, k12, hs12, by omega, by omega, ?_, ?_, ?_, ?_, ?_⟩
      · have w' := Wl.snoc (p := p) (rl := rl) (sm := sm) (t := t) wl9 (H' := upd (upd (upd H9 rl (.lst [])) p (.lst [V.ref sm, .ref rl])) W (.lst (ps.map V.ref ++ [V.ref p]))) (fun c m o e => by
          rw [upd_ne (nW c m)]
          exact s9 _ _ e) fz12 (by rw [upd_same, List.map_append]; rfl) (by rw [upd_ne Wp.symm, upd_same]) (at9.fz fz12) (by rw [upd_ne Wrl.symm]; exact s11 _ _ upd_same) np nrl prl
        rw [List.map_append]
        exact w'
      · intro c m
        rcases List.mem_cons.mp m with e | m
        · rw [e]
          exact ⟨fW, hWH⟩
        · rcases List.mem_append.mp m with m | m
          · rcases List.mem_append.mp m with m | m
            · exact off c (List.mem_cons_of_mem _ (List.mem_append_left _ m))
            · rw [List.mem_singleton.mp m]
              exact ⟨fp, hpH⟩
          · rcases List.mem_append.mp m with m | m
            · exact off c (List.mem_cons_of_mem _ (List.mem_append_right _ m))
            · rw [List.mem_singleton.mp m]
              exact ⟨frl, hrlH⟩
      · rw [List.map_append, nmt, List.take_add_one, List.getElem?_eq_getElem il]
        show _ ++ [t.nm] = _
        rw [tnm]
        rfl
      · intro t' m
        rcases List.mem_append.mp m with m | m
        · exact okt t' m
        · rw [List.mem_singleton.mp m]
          exact tok
      · have q9 : H9 q = some (.lst (nl.map V.str)) := k9 _ _ fq.1 fq.2 eq8
        rw [upd_ne Wq.symm]
        exact s9 _ _ q9
    · rintro σ H8 ⟨ms8, b8, v3, ps, rls, ts, rfl, k8, hs8, c81, c82, wl, off, nmt, okt, eq8⟩
      have lts : ts.length = (1 + r).toNat := by
        have := congrArg List.length nmt
        rw [List.length_map, List.length_take] at this
        omega
      exact ⟨_, rfl, k H8 ms8 b8 W ps rls ts k8 hs8 c81 (by omega) wl off ⟨by rw [nmt]; exact nd.sublist (List.take_sublist _ _), okt, by omega, by omega, fun t m => List.mem_flatten.mpr ⟨nl, mem, by
        have h : t.nm ∈ ts.map Ti.nm := List.mem_map_of_mem m
        rw [nmt] at h
        exact List.mem_of_mem_take h⟩⟩⟩
end
end Vm
namespace Vm
open PySem L2
theorem nm_text {x : Str} (h : nmS x = true) : (reprText x).length ≤ 82 ∧ x.length ≤ 8 := by
  unfold nmS at h
  rw [Bool.and_eq_true, Bool.and_eq_true, decide_eq_true_eq, decide_eq_true_eq, List.all_eq_true] at h
  obtain ⟨_, h8, hl⟩ := h
  have e := StrLaws.reprText_len x fun c hc => by
    have z := hl c hc
    unfold lowB at z
    rw [Bool.and_eq_true, decide_eq_true_eq, decide_eq_true_eq] at z
    omega
  omega
theorem DP.nm {K : PySem.W.Frag} {H : Hp} {P : Addr → Prop} {x : Str} {n : Nat} (h : nmS x = true) : DP K H P (.str x) (.str x) n := .str (Nat.le_trans (nm_text h).1 (by decide)) (Nat.le_trans (nm_text h).2 (by decide))
theorem DPs.nms {K : PySem.W.Frag} {H : Hp} {P : Addr → Prop} {n : Nat} : ∀ {ss : List Str}, ss.all nmS = true → DPs K H P (ss.map V.str) (ss.map Tr.str) n
  | [], _ => .nil
  | x :: r, h => by
    rw [List.all_cons, Bool.and_eq_true] at h
    exact .cons (.nm h.1) (DPs.nms h.2)
theorem ws_nms : ∀ {ss : List Str}, ss.all nmS = true → ws (ss.map Tr.str) ≤ 84 * ss.length
  | [], _ => Nat.zero_le _
  | x :: r, h => by
    rw [List.all_cons, Bool.and_eq_true] at h
    have h1 := ws_nms h.2
    have h2 := (nm_text h.1).1
    show ((reprText x).length + 2) + ws (r.map Tr.str) ≤ 84 * (x :: r).length
    rw [List.length_cons]
    omega
theorem DPs.there {K : PySem.W.Frag} {H : Hp} {P : Addr → Prop} {vs : List V} {ts : List Tr} {n : Nat} (d : DPs K H P vs ts n) : DPs K H (fun c => P c ∧ ∃ o, H c = some o) vs ts n := let ⟨bs, d, p⟩ := d; ⟨bs, d, fun b hb => ⟨p b hb, d.there b hb⟩⟩
theorem DP.there {K : PySem.W.Frag} {H : Hp} {P : Addr → Prop} {v : V} {t : Tr} {n : Nat} (d : DP K H P v t n) : DP K H (fun c => P c ∧ ∃ o, H c = some o) v t n := let ⟨bs, d, p⟩ := d; ⟨bs, d, fun b hb => ⟨p b hb, d.there b hb⟩⟩
end Vm
/-! the law: its tables, its store -/
namespace Vm
open PySem L2 StX
abbrev sMadeT : Stmt := top 47
abbrev sStoreL : Stmt := top 48
/-- a call that raises nothing there -/
theorem passF {X : Cx} : Passes (L2.CX X.prog X.w) X (fun _ _ _ => False) := fun _ _ _ _ _ _ _ ⟨_, _, _, _, _, _, _, _, _, _, _, _, he⟩ => he.elim
theorem names_dt {K : PySem.W.Frag} {H : Hp} : ∀ {ss : List Str}, ss.all nmS = true → DtAll K H (ss.map V.str) (ss.map Tr.str) 0 []
  | [], _ => .nil
  | x :: r, h => by
    rw [List.all_cons, Bool.and_eq_true] at h
    exact .cons (bs := []) (.str (Nat.le_trans (nm_text h.1).1 (by decide)) (Nat.le_trans (nm_text h.1).2 (by decide))) (names_dt h.2)
theorem TupS.dt {K : PySem.W.Frag} {H : Hp} {c : Addr} {ss : List Str} (h : TupS H c ss) (n : ss.all nmS = true) : Dt K H (.ref c) (.tup (ss.map Tr.str)) 1 [c] := by
  obtain ⟨o, e, d⟩ := h
  exact .tup e d (names_dt n) List.not_mem_nil
theorem sameS_self : ∀ ss : List Str, sameS (ss.map Tr.str) ss = true
  | [] => rfl
  | x :: r => by
    show ((x == x) && sameS (r.map Tr.str) r) = true
    rw [beq_self_eq_true, sameS_self r]
    rfl
theorem ti_valid {t : Ti} (h : TiOk t) : valid (.str t.nm) (.tup (t.ss.map Tr.str)) (.tup (t.zs.map Tr.str)) (.tup (t.ks.map Tr.str)) = true := by
  obtain ⟨g, kf⟩ := h
  have an : ∀ ss : List Str, ss.length ≤ 2 → ss.all nmS = true → areNms (.tup (ss.map Tr.str)) = true := fun ss l n => by
    show (decide ((ss.map Tr.str).length ≤ 2) && (ss.map Tr.str).all isNm) = true
    rw [List.length_map, decide_eq_true l, Bool.true_and, List.all_map]
    exact n
  unfold valid areCols
  rw [strsOf_map, strsOf_map]
  have c1 : isNm (.str t.nm) = true := g.n1
  have c2 : colsOk (t.ss ++ t.zs) = true := by
    unfold colsOk
    rw [decide_eq_true g.ne, decide_eq_true g.nd]
    rfl
  have c3 : isKey (.tup (t.ks.map Tr.str)) (t.ss ++ t.zs) = true := by
    show sameS (t.ks.map Tr.str) ((t.ss ++ t.zs).filter fun z => (t.ks.map Tr.str).any (isS z)) = true
    have f : (fun z => (t.ks.map Tr.str).any (isS z)) = fun z => t.ks.any (· == z) := by
      funext z
      rw [List.any_map]
      rfl
    rw [f]
    have kf' : t.ks = (t.ss ++ t.zs).filter fun z => t.ks.any (· == z) := kf
    rw [← kf']
    exact sameS_self _
  rw [c1, an _ g.l2 g.n2, an _ g.l3 g.n3, c2, c3]
  rfl
theorem two_of {α : Type} : ∀ {xs : List α}, xs.length = 2 → ∃ a b, xs = [a, b]
  | [a, b], _ => ⟨a, b, rfl⟩
theorem three_of {α : Type} : ∀ {xs : List α}, xs.length = 3 → ∃ a b c, xs = [a, b, c]
  | [a, b, c], _ => ⟨a, b, c, rfl⟩
def spMadeT (K : PySem.W.Frag) (CT : Addr) : Sp := fun vs H Q _ => ∃ (w : Addr) (ps rls : List Addr) (ts : List Ti) (rss : List (List Row)), vs = [.ref w] ∧ Wl H w ps rls ts rss ∧ Wn ts ∧
  ∀ (H' : Hp) (D : Addr) (ws : List V), Same H H' → H D = none → H' D = some (.lst ws) → TbsAt K H' CT ws ts → Q (.ref D) H'
section
variable {P : Program} {w : World} {K : PySem.W.Frag} {mg : Str → Option Value} {base : Heap} {fNm fNms fCols fKey C CT CI fI fM fSI fTO fRO fIC fIP : Addr}
theorem scMadeT : FnScope ["_law_world_here", "_law_some", "_law_rows"] ["_law_world_here"] (defScope sMadeT) := ⟨rfl, rfl, rfl, by decide +kernel, rfl, by decide +kernel, by decide +kernel⟩
theorem ok_madet {f : Addr} {fd fdI : FuncData} (F : Fun K "_law_made_tables" "_law_made_tables" sMadeT f fd) (U : TxtT K mg CT CI fCols fKey) (M : Mk K CT fI)
    (GI : FnOk P w K mg base (L2.CX P w) 4 fI fdI ["self", "name", "names", "numbers", "key"] (spInit K CT CI)) (bI : Binds K fdI ["self", "name", "names", "numbers", "key"] []) : FnOk P w K mg base CX0 6 f fd ["_law_world_here"] (spMadeT K CT) := by
  refine F.ok scMadeT (fun vs H Q E h => ?_) (fun cdv A outer s H vs Q E hr h => ?_)
  · obtain ⟨w, ps, rls, ts, rss, rfl, _⟩ := h
    rfl
  · obtain ⟨w, ps, rls, ts, rss, rfl, wl, wn, k⟩ := h
    refine ⟨_, pss_one (ps_ret (pe_lc (own := [("_law_some", 1), ("_law_rows", 2)]) (g := gLst K 2 (gCons (gName 1) (gCons (gName 2) gNil))) (tt := tYes)
        (te := tMake CT (spInit K CT CI) [] (fun _ _ _ => False) (tCons (tOp (rIxT K) (tVar 1) (tC (.int 0))) (tCons (tOp (rIxT K) (tVar 1) (tC (.int 1))) (tCons (tOp (rIxT K) (tVar 1) (tC (.int 2))) (tCons (tOp (rIxT K) (tVar 1) (tC (.int 3))) tNil))))) rfl scMadeT.nd (pi_list (pv 0))
          (blkOk_by (N := ["_law_world_here", "_law_some", "_law_rows"]) (sc := defScope sMadeT) (by decide +kernel))
          (fun _ _ _ _ _ => by exact (pg_lst rfl (by exact (pgs_cons (pg_name (i := 1) scMadeT.nd rfl (Or.inl rfl)) (by exact (pgs_cons (pg_name (i := 2) scMadeT.nd rfl (Or.inl rfl)) pgs_nil)))))) (fun _ _ _ _ _ => pts_nil)
          (fun _ _ _ _ _ => by exact (pe_make M GI (hr.mono (by decide)) rfl U.gC bI .nil passF (pa_cons (pe_ix ix_tup (pv 1) pe_int (fun _ _ => rfl)) (pa_cons (pe_ix ix_tup (pv 1) pe_int (fun _ _ => rfl)) (pa_cons (pe_ix ix_tup (pv 1) pe_int (fun _ _ => rfl)) (pa_cons (pe_ix ix_tup (pv 1) pe_int (fun _ _ => rfl)) pa_nil)))))))), ?_⟩
    have big : sizeLine > 1000 := by decide
    refine ⟨_, rfl, w, rfl, ⟨_, SqL.of wl.hw⟩, fun D hD => ?_⟩
    refine lc_list (K := K) (a := w) (xs := ps.map V.ref) (fun i H' => Same H H' ∧ ∃ ws, H' D = some (.lst ws) ∧ TbsAt K H' CT ws (ts.take i) ∧ ws.length = i) ⟨same_upd hD, [], upd_same, .nil, rfl⟩ (fun i H' _ z => SqL.of (z.1 _ _ wl.hw)) ?_ ?_
    · rintro i y H2 hi ⟨s2, ws, e2, tb2, lw⟩
      have lt : i < ts.length := by
        have := (List.getElem?_eq_some_iff.mp hi).1
        rw [List.length_map, wl.lp] at this
        exact this
      obtain ⟨p, rl, t, rs, e1, _, e3, _, sm, vs, h0, ⟨o, a1, a2, a3, hs, hod, T1, T2, T3⟩, _, _⟩ := wl.at lt
      rw [List.getElem?_map, e1] at hi
      obtain rfl := Option.some.inj hi
      have tok := wn.ok t (List.mem_of_getElem? e3)
      have few := wn.few
      refine ⟨p, [.ref sm, .ref rl], rfl, SqL.of (s2 _ _ h0), rfl, _, _, rfl, _, _, rfl, rfl, ?_⟩
      refine ⟨rfl, ?_⟩
      dsimp only [tYes]
      rw [if_pos rfl]
      have hs2 : SqT K H2 sm [.str t.nm, .ref a1, .ref a2, .ref a3] := .inl (.inr ⟨o, s2 _ _ hs⟩)
      refine ⟨_, rfl, sm, _, 0, .str t.nm, rfl, rfl, hs2, rfl, _, rfl, sm, _, 1, .ref a1, rfl, rfl, hs2, rfl, _, rfl, sm, _, 2, .ref a2, rfl, rfl, hs2, rfl, _, rfl, sm, _, 3, .ref a3, rfl, rfl, hs2, rfl, fun x dx nx ndx ne => ?_⟩
      have sx : Same H2 (upd (upd H2 dx (.own x)) x (.ins CT dx [])) := fun b u e => by
        rw [upd_ne (ne_of_none e nx), upd_ne (ne_of_none e ndx)]
        exact e
      have s0x := s2.trans sx
      have dnm : Dt K (upd (upd H2 dx (.own x)) x (.ins CT dx [])) (.str t.nm) (.str t.nm) 0 [] := .str (Nat.le_trans (nm_text tok.g.n1).1 (by decide)) (Nat.le_trans (nm_text tok.g.n1).2 (by decide))
      refine ⟨x, dx, .str t.nm, .ref a1, .ref a2, .ref a3, _, _, _, _, _, _, _, _, _, _, _, _, rfl, upd_same, dnm, (T1.same s0x).dt tok.g.n2, (T2.same s0x).dt tok.g.n3, (T3.same s0x).dt tok.g.n4, fun _ H3 k3 e3' => ?_, fun z => by rw [ti_valid tok] at z; cases z⟩
      have k23 : Same H2 H3 := fun b u e => k3 _ _ (ne_of_none e nx) (sx _ _ e)
      have k03 := s2.trans k23
      refine ⟨rfl, ws, k23 _ _ e2, by omega, fun b u e => ?_, ws ++ [.ref x], upd_same, ?_, by rw [List.length_append, lw]; rfl⟩
      · rw [upd_ne (ne_of_none e hD)]
        exact k03 _ _ e
      · have nl : NL H3 (upd H3 D (.lst (ws ++ [.ref x]))) := fun b u n e => by
          rw [upd_ne fun z => by rw [z, k23 _ _ e2] at e; exact n _ (Option.some.inj e).symm]
          exact e
        rw [List.take_add_one, e3]
        refine each_append ((tbs_same tb2 k23).mono fun _ _ z => z.nl nl) (.cons ?_ .nil)
        refine TbAt.nl ⟨x, rfl, ⟨dx, a1, a2, a3, e3', ?_, ?_, ?_⟩, tok.g.l2, tok.g.l3, tok.g.l4⟩ nl
        · exact .inr (T1.same k03)
        · exact .inr (T2.same k03)
        · exact .inr (T3.same k03)
    · rintro H2 ⟨s2, ws, e2, tb2, lw⟩
      rw [List.length_map, wl.lp, List.take_length] at tb2
      exact k H2 D ws s2 hD e2 tb2
theorem scStoreL : FnScope ["_law_world_here", "_law_tables"] ["_law_world_here"] (defScope sStoreL) := ⟨rfl, rfl, rfl, by decide +kernel, rfl, by decide +kernel, by decide +kernel⟩
def spStoreL (K : PySem.W.Frag) (C CT : Addr) : Sp := fun vs H Q _ => ∃ (w : Addr) (ps rls : List Addr) (ts : List Ti) (rss : List (List Row)), vs = [.ref w] ∧ Wl H w ps rls ts rss ∧ Wn ts ∧
  ∀ (H' : Hp) (st dx tp rd : Addr) (ws : List V) (qs : List Addr), Same H H' → H st = none → H rd = none → StAt K H' C CT st dx tp rd ws ts qs (ts.map fun _ => []) → Q (.ref st) H'
theorem ok_storel {f : Addr} {fd fdM : FuncData} (F : Fun K "_law_store" "_law_store" sStoreL f fd) (len : mg "len" = none) (S : TxtS K mg C fTO fRO fIC fIP) (MS : Mk K C fSI)
    (cM : Calls K mg "_law_made_tables" fM) (GM : FnOk P w K mg base CX0 6 fM fdM ["_law_world_here"] (spMadeT K CT)) (bM : Binds K fdM ["_law_world_here"] [])
    (GI : FnR P w K mg base (L2.CX P w) 2 fSI (fun vs H Q E => ∃ ws rest, vs = ws ++ rest ∧ ws.length = (["self"] : List Str).length ∧ rest.length ≤ sizeLine ∧ ∀ p, H p = Option.none → spSInit K C CT (ws ++ [V.ref p]) (upd H p (.tup rest)) Q E)) :
    FnOk P w K mg base CX0 7 f fd ["_law_world_here"] (spStoreL K C CT) := by
  refine F.ok scStoreL (fun vs H Q E h => ?_) (fun cdv A outer s H vs Q E hr h => ?_)
  · obtain ⟨w, ps, rls, ts, rss, rfl, _⟩ := h
    rfl
  · obtain ⟨w, ps, rls, ts, rss, rfl, wl, wn, k⟩ := h
    have hr3 : Room 3 _ := hr.mono (by decide)
    have ix : ∀ {X : Cx} {p pos : Pos}, True := trivial
    refine ⟨_, pss_cons (ps_set (i := 1) scStoreL.nd rfl (Or.inl rfl) (pe_call GM hr rfl cM.g cM.k bM .nil pass0 (pa_cons (pv 0) pa_nil)))
      (pss_cons (ps_if (pt_cmpR op_eq (pe_callB call_len_seq (by rfl) len (by decide +kernel) (pa_cons (pv 1) pa_nil)) pe_int (nomark _))
        (pss_one (ps_ret (pe_makeR MS GI hr3 (by rfl) S.gC passF (pa_cons (pe_ix ix_list (pv 1) pe_int (fun _ _ => rfl)) pa_nil)))) pss_nil)
      (pss_cons (ps_if (pt_cmpR op_eq (pe_callB call_len_seq (by rfl) len (by decide +kernel) (pa_cons (pv 1) pa_nil)) pe_int (nomark _))
        (pss_one (ps_ret (pe_makeR MS GI hr3 (by rfl) S.gC passF (pa_cons (pe_ix ix_list (pv 1) pe_int (fun _ _ => rfl)) (pa_cons (pe_ix ix_list (pv 1) pe_int (fun _ _ => rfl)) pa_nil))))) pss_nil)
      (pss_one (ps_ret (pe_makeR MS GI hr3 (by rfl) S.gC passF (pa_cons (pe_ix ix_list (pv 1) pe_int (fun _ _ => rfl)) (pa_cons (pe_ix ix_list (pv 1) pe_int (fun _ _ => rfl)) (pa_cons (pe_ix ix_list (pv 1) pe_int (fun _ _ => rfl)) pa_nil)))))))), ?_⟩
    have big : sizeLine > 1000 := by decide
    refine ⟨_, rfl, w, ps, rls, ts, rss, rfl, wl, wn, fun H1 D ws s1 hD eD tb => ?_⟩
    have lw : ws.length = ts.length := tb.length
    have one := wn.one
    have few := wn.few
    have made : ∀ {n : Nat} (us : List V), us = ws → ∀ x dx, H1 x = none → H1 dx = none → dx ≠ x → ∃ ws' rest, V.ref x :: us = ws' ++ rest ∧ ws'.length = (["self"] : List Str).length ∧ rest.length ≤ sizeLine ∧ ∀ p, (upd (upd H1 dx (.own x)) x (.ins C dx [])) p = Option.none →
        spSInit K C CT (ws' ++ [V.ref p]) (upd (upd (upd H1 dx (.own x)) x (.ins C dx [])) p (.tup rest)) (fun v H2 => v = .non ∧ Q (.ref x) H2) (fun _ _ _ => False) := fun {n} us eu x dx nx ndx ne => by
      subst eu
      refine ⟨[.ref x], us, rfl, rfl, by omega, fun p hp => ?_⟩
      have px : x ≠ p := fun e => by
        rw [← e, upd_same] at hp
        cases hp
      have sx : Same H1 (upd (upd (upd H1 dx (.own x)) x (.ins C dx [])) p (.tup us)) := fun b u e => by
        have e2 : upd (upd H1 dx (.own x)) x (.ins C dx []) b = some u := by
          rw [upd_ne (ne_of_none e nx), upd_ne (ne_of_none e ndx)]
          exact e
        rw [upd_ne (ne_of_none e2 hp)]
        exact e2
      refine ⟨x, dx, p, us, ts, rfl, by rw [upd_ne px, upd_same], SqT.of upd_same, tbs_same tb sx, one, few, wn.nd, fun H2 rd qs kb nrd sa => ⟨rfl, ?_⟩⟩
      have s12 : Same H1 H2 := fun b u e => kb _ _ (ne_of_none e nx) (sx _ _ e)
      exact k H2 x dx p rd us qs (s1.trans s12) (s1.free nx) (s1.free (sx.free nrd)) sa
    refine ⟨_, rfl, D, ws, rfl, .inl (SqL.of eD), rfl, _, rfl, ?_⟩
    refine ite2 (fun e => ?_) (fun e => ?_)
    · have e1 := V.int.inj (of_decide_eq_true e)
      obtain ⟨a, rfl⟩ : ∃ a, ws = [a] := List.length_eq_one_iff.mp (by omega)
      exact ⟨_, rfl, D, _, ((0 : Nat) : Int), a, rfl, rfl, SqL.of eD, atI_nat rfl, made (n := 1) _ rfl⟩
    have n1 : ws.length ≠ 1 := fun z => e (decide_eq_true (by rw [z]; rfl))
    refine ⟨_, rfl, D, ws, rfl, .inl (SqL.of eD), rfl, _, rfl, ?_⟩
    refine ite2 (fun e => ?_) (fun e => ?_)
    · have e1 := V.int.inj (of_decide_eq_true e)
      obtain ⟨a, a2, rfl⟩ : ∃ a a2, ws = [a, a2] := two_of (by omega)
      exact ⟨_, rfl, D, _, ((0 : Nat) : Int), a, rfl, rfl, SqL.of eD, atI_nat rfl, _, rfl, D, _, ((1 : Nat) : Int), a2, rfl, rfl, SqL.of eD, atI_nat rfl, made (n := 1) _ rfl⟩
    have n2 : ws.length ≠ 2 := fun z => e (decide_eq_true (by rw [z]; rfl))
    obtain ⟨a, a2, a3, rfl⟩ : ∃ a a2 a3, ws = [a, a2, a3] := three_of (by omega)
    exact ⟨_, rfl, D, _, ((0 : Nat) : Int), a, rfl, rfl, SqL.of eD, atI_nat rfl, _, rfl, D, _, ((1 : Nat) : Int), a2, rfl, rfl, SqL.of eD, atI_nat rfl, _, rfl, D, _, ((2 : Nat) : Int), a3, rfl, rfl, SqL.of eD, atI_nat rfl, made (n := 1) _ rfl⟩
end
end Vm
namespace Vm
open PySem L2
/-- how many rows there are in all -/
def countOf (rss : List (List Row)) : Nat := (rss.map List.length).sum
theorem count_snoc {rss : List (List Row)} {i : Nat} {rs : List Row} (e : rss[i]? = some rs) : countOf (rss.take (i + 1)) = countOf (rss.take i) + rs.length := by
  unfold countOf
  rw [List.take_add_one, e, List.map_append, List.sum_append]
  simp
theorem count_set : ∀ {rss : List (List Row)} {i : Nat} {rs rs' : List Row}, rss[i]? = some rs → countOf (rss.set i rs') + rs.length = countOf rss + rs'.length
  | [], _, _, _, e => nomatch e
  | r :: rss, 0, rs, rs', e => by
    obtain rfl := Option.some.inj e
    show (rs'.length + countOf rss) + r.length = (r.length + countOf rss) + rs'.length
    omega
  | r :: rss, i + 1, rs, rs', e => by
    have ih := count_set (rss := rss) (i := i) (rs := rs) (rs' := rs') e
    show (r.length + countOf (rss.set i rs')) + rs.length = (r.length + countOf rss) + rs'.length
    omega
theorem count_le {rss : List (List Row)} {i : Nat} {rs : List Row} (e : rss[i]? = some rs) : rs.length ≤ countOf rss := by
  have := count_set (rs' := []) e
  have h : ([] : List Row).length = 0 := rfl
  omega
end Vm
/-! the law: a row -/
namespace Vm
open PySem L2
abbrev sRowL : Stmt := top 49
def smallC : Cell → Bool
  | .s x => nmS x
  | .i n => decide (n.natAbs < 10 ^ 40)
/-- a row that the law made -/
structure Rk (t : Ti) (r : Row) : Prop where
  ok : Row.ok t r
  sm : ∀ c ∈ r, smallC c = true
theorem cell_w {c : Cell} (h : smallC c = true) : c.t.w ≤ 100 := by
  cases c with
  | s x => exact Nat.le_trans (nm_text h).1 (by decide)
  | i n => exact (farOk (of_decide_eq_true h)).2
theorem cells_w : ∀ {r : Row}, (∀ c ∈ r, smallC c = true) → ws (r.map Cell.t) ≤ 102 * r.length
  | [], _ => Nat.zero_le _
  | c :: r, h => by
    have h1 := cells_w (r := r) fun x m => h x (List.mem_cons_of_mem _ m)
    have h2 := cell_w (h c List.mem_cons_self)
    show (c.t.w + 2) + ws (r.map Cell.t) ≤ 102 * (r.length + 1)
    omega
theorem Rk.w {t : Ti} {r : Row} (h : Rk t r) (g : t.ok) : (rowT r).w ≤ 420 := by
  have h1 := cells_w h.sm
  have h2 := h.ok.len
  have := g.l2
  have := g.l3
  show 3 + ws (r.map Cell.t) ≤ 420
  omega
theorem cells_dt {K : PySem.W.Frag} {H : Hp} : ∀ {r : Row}, (∀ c ∈ r, smallC c = true) → DtAll K H (r.map Cell.v) (r.map Cell.t) 0 []
  | [], _ => .nil
  | .s x :: r, h => .cons (bs := []) (.str (Nat.le_trans (nm_text (h _ List.mem_cons_self)).1 (by decide)) (Nat.le_trans (nm_text (h _ List.mem_cons_self)).2 (by decide))) (cells_dt fun c m => h c (List.mem_cons_of_mem _ m))
  | .i n :: r, h => .cons (bs := []) (.int (farOk (of_decide_eq_true (h _ List.mem_cons_self))).1) (cells_dt fun c m => h c (List.mem_cons_of_mem _ m))
theorem RwAt.dt {K : PySem.W.Frag} {H : Hp} {v : V} {r : Row} (h : RwAt H v r) (sm : ∀ c ∈ r, smallC c = true) : ∃ b, v = .ref b ∧ Dt K H v (rowT r) 1 [b] := by
  obtain ⟨p, o, rfl, e, d⟩ := h
  exact ⟨p, rfl, .tup e d (cells_dt sm) List.not_mem_nil⟩
def fourN : List Str := ["a", "b", "ann", "abcdefgh"]
theorem fourN_nm : fourN.all nmS = true := by decide +kernel
def fiveI : List Int := [0, 1, -1, 5, 10 ^ 12 - 1]
theorem fiveI_sm : ∀ i ∈ fiveI, i.natAbs < 10 ^ 40 := by decide +kernel
theorem row_of {t : Ti} {ns : List Str} {is : List Int} (l1 : ns.length = t.ss.length) (l2 : is.length = t.zs.length) (n1 : ns.all nmS = true) (n2 : ∀ i ∈ is, i.natAbs < 10 ^ 40) : Rk t (ns.map Cell.s ++ is.map Cell.i) := by
  refine ⟨⟨by rw [List.length_append, List.length_map, List.length_map, l1, l2], fun i c e => ?_⟩, fun c m => ?_⟩
  · by_cases lt : i < ns.length
    · rw [List.getElem?_append_left (by rw [List.length_map]; exact lt), List.getElem?_map, List.getElem?_eq_getElem lt] at e
      obtain rfl := Option.some.inj e
      rw [decide_eq_true (by omega)]
      exact List.all_eq_true.mp n1 _ (List.getElem_mem lt)
    · rw [List.getElem?_append_right (by rw [List.length_map]; omega), List.getElem?_map] at e
      cases q : is[i - (ns.map Cell.s).length]? with
      | none => rw [q] at e; cases e
      | some n =>
        rw [q] at e
        obtain rfl := Option.some.inj e
        rw [decide_eq_false (by omega)]
        rfl
  · rcases List.mem_append.mp m with m | m
    · obtain ⟨x, hx, rfl⟩ := List.mem_map.mp m
      exact List.all_eq_true.mp n1 x hx
    · obtain ⟨x, hx, rfl⟩ := List.mem_map.mp m
      exact decide_eq_true (n2 x hx)
theorem cells_v (ns : List Str) (is : List Int) : (ns.map Cell.s ++ is.map Cell.i).map Cell.v = ns.map V.str ++ is.map V.int := by
  rw [List.map_append, List.map_map, List.map_map]
  rfl
def spRowL : Sp := fun vs H Q _ => ∃ (s l sm : Addr) (ms : List Int) (z b : Int) (t : Ti), vs = [.ref s, .ref sm] ∧ Src H s l ms z b ∧ 0 ≤ b ∧ b < 800000 ∧ ArgT H sm t ∧ t.ok ∧
  ∀ (H' : Hp) (ms' : List Int) (b' : Int) (v : V) (r : Row), But s l H H' → Src H' s l ms' z b' → b ≤ b' → b' ≤ b + 4 → RwAt H' v r → Rk t r → Q v H'
section
variable {P : Program} {w : World} {K : PySem.W.Frag} {mg : Str → Option Value} {base : Heap} {fD fP : Addr}
theorem scRowL : FnScope ["_law_source_here", "_law_some", "_law_names", "_law_column"] ["_law_source_here", "_law_some"] (defScope sRowL) := ⟨rfl, rfl, rfl, by decide +kernel, rfl, by decide +kernel, by decide +kernel⟩
theorem ok_rowl {f : Addr} {fd fdP : FuncData} (F : Fun K "_law_row" "_law_row" sRowL f fd) (T : TxtL K mg fD fP) (GP : FnOk P w K mg base CX0 2 fP fdP ["_law_source_here", "_law_items"] (spPick K)) (bP : Binds K fdP ["_law_source_here", "_law_items"] []) :
    FnOk P w K mg base CX0 3 f fd ["_law_source_here", "_law_some"] spRowL := by
  refine F.ok scRowL (fun vs H Q E h => ?_) (fun cdv A outer s H vs Q E hr h => ?_)
  · obtain ⟨s, l, sm, ms, z, b, t, rfl, _⟩ := h
    rfl
  · obtain ⟨a, l, sm, ms, z, b, t, rfl, hs, b0, b1, ⟨o, a1, a2, a3, h0, hod, T1, T2, T3⟩, g, k⟩ := h
    refine ⟨_, pss_cons (ps_setLc (i := 2) (own := [("_law_column", 3)]) (g := gName 3) (tt := tYes) rfl scRowL.nd rfl rfl (sw_true rfl rfl rfl (by decide +kernel)) (pi_tup (pe_ix ix_tup (pv 1) pe_int (fun _ _ => rfl)))
          (blkOk_by (N := ["_law_source_here", "_law_some", "_law_names", "_law_column"]) (sc := defScope sRowL) (by decide +kernel)) (fun _ _ _ _ _ => pg_name (i := 3) scRowL.nd rfl (Or.inl rfl)) (fun _ _ _ _ _ => pts_nil)
          (fun _ _ _ _ _ => pe_call GP hr rfl T.gP T.kP bP .nil pass0 (pa_cons (pv 0) (pa_cons (pe_lst (pa_cons pe_str (pa_cons pe_str (pa_cons pe_str (pa_cons pe_str pa_nil))))) pa_nil))))
      (pss_one (ps_ret (pe_callTy call_tupleF (by rfl) T.tuple (by decide +kernel) (pa_cons (pe_op op_cat (pv 2) (pe_lc (own := [("_law_column", 3)]) (g := gName 3) (tt := tYes) rfl scRowL.nd (pi_tup (pe_ix ix_tup (pv 1) pe_int (fun _ _ => rfl)))
          (blkOk_by (N := ["_law_source_here", "_law_some", "_law_names", "_law_column"]) (sc := defScope sRowL) (by decide +kernel)) (fun _ _ _ _ _ => pg_name (i := 3) scRowL.nd rfl (Or.inl rfl)) (fun _ _ _ _ _ => pts_nil)
          (fun _ _ _ _ _ => pe_call GP hr rfl T.gP T.kP bP .nil pass0 (pa_cons (pv 0) (pa_cons (pe_lst (pa_cons pe_int (pa_cons pe_int (pa_cons (pe_un un_neg pe_int) (pa_cons pe_int (pa_cons (pe_op op_sub (pe_op op_pow pe_int pe_int) pe_int) pa_nil)))))) pa_nil))))) pa_nil)))), ?_⟩
    have big : sizeLine > 1000 := by decide
    have l2 := g.l2
    have l3 := g.l3
    have at_ : ∀ {H' : Hp} {ms' : List Int} {b' : Int}, But a l H H' → SqT K H' sm [.str t.nm, .ref a1, .ref a2, .ref a3] := fun {H' ms' b'} kk => .inl (.inr ⟨o, kk.fz hs _ _ _ h0⟩)
    have tup : ∀ {H' : Hp} {c : Addr} {ss : List Str}, But a l H H' → TupS H c ss → SqT K H' c (ss.map V.str) := fun kk T => (T.fz (kk.fz hs)).sq
    refine ⟨_, rfl, sm, _, 1, .ref a1, rfl, rfl, at_ (ms' := ms) (b' := b) (fun _ _ _ _ e => e), rfl, a1, rfl, ⟨_, tup (fun _ _ _ _ e => e) T1⟩, fun D hD => ?_⟩
    have fD := hs.free hD
    refine lc_tup (K := K) (a := a1) (xs := t.ss.map V.str) (fun i H' => ∃ (ms' : List Int) (ys : List Str), But a l H H' ∧ Src H' a l ms' z (b + (i : Int)) ∧ H' D = some (.lst (ys.map V.str)) ∧ ys.length = i ∧ ys.all nmS = true) ?_ (fun i H' _ ⟨_, _, kk, _⟩ => tup kk T1) ?_ ?_
    · exact ⟨ms, [], But.put (fun _ _ _ _ e => e) hD, by rw [show b + ((0 : Nat) : Int) = b by omega]; exact hs.put fD, upd_same, rfl, rfl⟩
    · rintro i y H2 hi ⟨ms2, ys, k2, hs2, e2, ly, ay⟩
      refine ⟨rfl, ?_⟩
      dsimp only [tYes]
      rw [if_pos rfl]
      have li : i < t.ss.length := by
        have := (List.getElem?_eq_some_iff.mp hi).1
        rw [List.length_map] at this
        exact this
      refine ⟨_, rfl, by show 4 ≤ sizeLine; omega, fun q hq => ?_⟩
      have fq := hs2.free hq
      have qD : q ≠ D := fun e => by
        rw [e, e2] at hq
        cases hq
      refine ⟨a, l, .ref q, ms2, z, b + (i : Int), rfl, hs2.put fq, by omega, by omega, .inl ⟨q, fourN.map V.str, rfl, fun H' kk => SqL.of (kk _ _ fq.1 fq.2 upd_same), by decide, by decide, fun H3 ms3 v k3 hs3 hv => ?_⟩⟩
      obtain ⟨x, hx, rfl⟩ := List.mem_map.mp hv
      have e3 : H3 D = some (.lst (ys.map V.str)) := k3 _ _ fD.1 fD.2 (by rw [upd_ne qD.symm]; exact e2)
      refine ⟨_, e3, by rw [List.length_map]; omega, ms3, ys ++ [x], ((k2.put (k2.back hs2 hq)).trans k3).put hD, ?_, ?_, by rw [List.length_append, ly]; rfl, ?_⟩
      · rw [show b + ((i + 1 : Nat) : Int) = b + (i : Int) + 1 by omega]
        exact hs3.put fD
      · rw [upd_same, List.map_append]
        rfl
      · rw [List.all_append, ay, Bool.true_and]
        show (nmS x && true) = true
        rw [Bool.and_true]
        exact List.all_eq_true.mp fourN_nm x hx
    rintro H2 ⟨ms2, ys, k2, hs2, e2, ly, ay⟩
    rw [List.length_map] at hs2 ly
    refine ⟨_, rfl, _, rfl, sm, _, 2, .ref a2, rfl, rfl, at_ (ms' := ms) (b' := b) k2, rfl, a2, rfl, ⟨_, tup k2 T2⟩, fun D2 hD2 => ?_⟩
    have fD2 := hs2.free hD2
    have hD2H := k2.back hs2 hD2
    have DD : D2 ≠ D := fun e => by
      rw [e, e2] at hD2
      cases hD2
    refine lc_tup (K := K) (a := a2) (xs := t.zs.map V.str) (fun i H' => ∃ (ms' : List Int) (is : List Int), But a l H H' ∧ Src H' a l ms' z (b + (t.ss.length : Int) + (i : Int)) ∧ H' D2 = some (.lst (is.map V.int)) ∧ is.length = i ∧ (∀ v ∈ is, v.natAbs < 10 ^ 40) ∧ H' D = some (.lst (ys.map V.str)))
      ?_ (fun i H' _ ⟨_, _, kk, _⟩ => tup kk T2) ?_ ?_
    · refine ⟨ms2, [], k2.put hD2H, ?_, upd_same, rfl, (fun v h => nomatch h), ?_⟩
      · rw [show b + (t.ss.length : Int) + ((0 : Nat) : Int) = b + (t.ss.length : Int) by omega]
        exact hs2.put fD2
      · rw [upd_ne DD.symm]
        exact e2
    · rintro i y H3 hi ⟨ms3, is, k3, hs3, e3, li, sm3, eD⟩
      refine ⟨rfl, ?_⟩
      dsimp only [tYes]
      rw [if_pos rfl]
      have lt : i < t.zs.length := by
        have := (List.getElem?_eq_some_iff.mp hi).1
        rw [List.length_map] at this
        exact this
      refine ⟨_, rfl, _, rfl, _, _, rfl, rfl, ⟨by decide, by decide, by decide⟩, _, _, rfl, rfl, by show 5 ≤ sizeLine; omega, fun q hq => ?_⟩
      have fq := hs3.free hq
      have qD2 : q ≠ D2 := fun e => by
        rw [e, e3] at hq
        cases hq
      have qD : q ≠ D := fun e => by
        rw [e, eD] at hq
        cases hq
      refine ⟨a, l, .ref q, ms3, z, b + (t.ss.length : Int) + (i : Int), rfl, hs3.put fq, by omega, by omega, .inl ⟨q, fiveI.map V.int, rfl, fun H' kk => SqL.of (kk _ _ fq.1 fq.2 upd_same), by show 0 < 5; decide, by show 5 ≤ 1000; decide, fun H4 ms4 v k4 hs4 hv => ?_⟩⟩
      obtain ⟨x, hx, rfl⟩ := List.mem_map.mp hv
      have e4 : H4 D2 = some (.lst (is.map V.int)) := k4 _ _ fD2.1 fD2.2 (by rw [upd_ne qD2.symm]; exact e3)
      have eD4 : H4 D = some (.lst (ys.map V.str)) := k4 _ _ fD.1 fD.2 (by rw [upd_ne qD.symm]; exact eD)
      refine ⟨_, e4, by rw [List.length_map]; omega, ms4, is ++ [x], ((k3.put (k3.back hs3 hq)).trans k4).put hD2H, ?_, ?_, by rw [List.length_append, li]; rfl, ?_, ?_⟩
      · rw [show b + (t.ss.length : Int) + ((i + 1 : Nat) : Int) = b + (t.ss.length : Int) + (i : Int) + 1 by omega]
        exact hs4.put fD2
      · rw [upd_same, List.map_append]
        rfl
      · intro v hv'
        rcases List.mem_append.mp hv' with q | q
        · exact sm3 v q
        · rw [List.mem_singleton.mp q]
          exact fiveI_sm x hx
      · rw [upd_ne DD.symm]
        exact eD4
    · rintro H3 ⟨ms3, is, k3, hs3, e3, li, sm3, eD⟩
      rw [List.length_map] at hs3 li
      refine ⟨D, D2, _, _, rfl, rfl, eD, e3, by rw [List.length_map, List.length_map]; omega, fun p hp => ⟨p, _, rfl, SqL.of upd_same, fun q ob hq hd => ?_⟩⟩
      have s4 := (same_upd (o := .lst (ys.map V.str ++ is.map V.int)) hp).trans (same_upd (o := .frz ob (.tup (ys.map V.str ++ is.map V.int))) hq)
      refine k _ ms3 _ (.ref q) (ys.map Cell.s ++ is.map Cell.i) (k3.trans (.of_same s4)) (hs3.but s4) (by omega) (by omega) ⟨q, ob, rfl, ?_, hd⟩ (row_of (by omega) (by omega) ay sm3)
      rw [upd_same, cells_v]
end
end Vm
/-! the law: a row near those that are there -/
namespace Vm
open PySem L2
abbrev sNear : Stmt := top 50
/-- a tuple that was made here -/
def TupV (H : Hp) (a : Addr) (xs : List V) : Prop := ∃ o : Obj, H a = some (.frz o (.tup xs)) ∧ o.dict = none
theorem TupV.fz {H H' : Hp} {a : Addr} {xs : List V} (k : Fz H H') (h : TupV H a xs) : TupV H' a xs := let ⟨o, e, d⟩ := h; ⟨o, k _ _ _ e, d⟩
theorem TupV.sq {K : PySem.W.Frag} {H : Hp} {a : Addr} {xs : List V} (h : TupV H a xs) : SqT K H a xs := let ⟨o, e, _⟩ := h; .inl (.inr ⟨o, e⟩)
section
variable {X : Cx}
def rSlT (K : PySem.W.Frag) : V → Option Int → Option Int → Hp → VK → Prop := fun x lo hi H Q => ∃ a xs, x = .ref a ∧ TupV H a xs ∧ ∀ (q : Addr) (H' : Hp), Same H H' → TupV H' q (cutV xs lo hi) → Q (.ref q) H'
theorem sl_T : SlR X (rSlT X.K) := by
  intro pins s σ H x v vl vu lo hi sl Q I rx hs pl pu h
  obtain ⟨a, xs, rfl, hx, q⟩ := h
  refine sl_tupF pins s σ H _ v vl vu lo hi sl Q I rx hs pl pu ⟨a, xs, rfl, hx.sq, fun z => ?_, fun p o hp hd => ?_⟩
  · refine q a H (Same.refl H) ?_
    rw [cut_all xs lo hi z]
    exact hx
  · exact q p _ (same_upd hp) ⟨o, upd_same, hd⟩
def rCatT (K : PySem.W.Frag) : R2 := fun x y H Q => ∃ a b xs ys, x = .ref a ∧ y = .ref b ∧ TupV H a xs ∧ TupV H b ys ∧ xs.length + ys.length ≤ sizeLine ∧ ∀ (q : Addr) (H' : Hp), Same H H' → TupV H' q (xs ++ ys) → Q (.ref q) H'
theorem op_catT2 : OpR X (binaryOp .Add) (rCatT X.K) := by
  intro pins s σ H x y v u Q I rx ry h
  obtain ⟨a, b, xs, ys, rfl, rfl, ha, hb, hz, q⟩ := h
  refine op_catF pins s σ H _ _ v u Q I rx ry ⟨a, b, xs, ys, rfl, rfl, ha.sq, hb.sq, hz, fun e => ?_, fun _ e => ?_, fun _ _ p o hp hd => ?_⟩
  · subst e
    exact q b H (Same.refl H) hb
  · subst e
    exact q a H (Same.refl H) (by rw [List.append_nil]; exact ha)
  · exact q p _ (same_upd hp) ⟨o, upd_same, hd⟩
end
theorem cut_mid (xs : List V) (k : Nat) (h : k < xs.length) : cutV xs (some (k : Int)) (some ((k : Int) + 1)) = (xs.drop k).take 1 := by
  have e1 : HT.sIx xs.length 0 (some (k : Int)) = k := by
    have q := HT.sIx_nat xs.length 0 k
    rw [q]
    omega
  have e2 : HT.sIx xs.length xs.length (some ((k : Int) + 1)) = k + 1 := by
    have q := HT.sIx_nat xs.length xs.length (k + 1)
    have c : (((k + 1 : Nat)) : Int) = (k : Int) + 1 := by omega
    rw [c] at q
    rw [q]
    omega
  unfold cutV
  rw [e1, e2, show k + 1 - k = 1 by omega]
theorem mix_set {r o : Row} {k : Nat} {c : Cell} (e : o[k]? = some c) (h : k < r.length) : ((r.map Cell.v).take k ++ ((o.map Cell.v).drop k).take 1) ++ (r.map Cell.v).drop (k + 1) = (r.set k c).map Cell.v := by
  have lt := (List.getElem?_eq_some_iff.mp e).1
  have d : (o.map Cell.v).drop k = c.v :: (o.map Cell.v).drop (k + 1) := by
    rw [List.drop_eq_getElem_cons (by rw [List.length_map]; exact lt)]
    congr 1
    rw [List.getElem_map, (List.getElem?_eq_some_iff.mp e).2]
  rw [d]
  show ((r.map Cell.v).take k ++ [c.v]) ++ (r.map Cell.v).drop (k + 1) = _
  rw [List.set_eq_take_append_cons_drop, if_pos h, List.map_append, List.map_cons, List.map_take, List.map_drop, List.append_assoc]
  rfl
theorem Rk.set {t : Ti} {r o : Row} {k : Nat} {c : Cell} (h : Rk t r) (h2 : Rk t o) (e : o[k]? = some c) : Rk t (r.set k c) := by
  refine ⟨⟨by rw [List.length_set]; exact h.ok.len, fun i d ed => ?_⟩, fun d m => ?_⟩
  · rw [List.getElem?_set] at ed
    split at ed
    · rename_i q
      subst q
      split at ed
      · obtain rfl := Option.some.inj ed
        exact h2.ok.cell k c e
      · cases ed
    · exact h.ok.cell i d ed
  · rcases List.mem_or_eq_of_mem_set m with m | m
    · exact h.sm d m
    · rw [m]
      exact h2.sm c (List.mem_of_getElem? e)
theorem rows_depth : ∀ rs : List Row, PyData.depthAll (rs.map rowD) ≤ 1
  | [] => Nat.zero_le _
  | r :: rs => by
    have h := rows_depth rs
    have h2 := row_depth r
    show Nat.max (rowD r).depth (PyData.depthAll (rs.map rowD)) ≤ 1
    exact Nat.max_le.mpr ⟨by omega, h⟩
theorem listD_depth (rs : List Row) : (PyData.list (rs.map rowD)).depth ≤ 6 := by
  have h := rows_depth rs
  simp only [PyData.depth]
  omega
def spNear : Sp := fun vs H Q _ => ∃ (s l sm rl : Addr) (ms : List Int) (z b : Int) (t : Ti) (xs : List V) (rs : List Row), vs = [.ref s, .ref sm, .ref rl] ∧ Src H s l ms z b ∧ 0 ≤ b ∧ b < 700000 ∧ ArgT H sm t ∧ t.ok ∧ H rl = some (.lst xs) ∧ Off s l rl ∧ RowsAt H xs rs ∧ (∀ r ∈ rs, Rk t r) ∧ rs.length ≤ 100 ∧
  ∀ (H' : Hp) (ms' : List Int) (b' : Int) (v : V) (r : Row), But s l H H' → Src H' s l ms' z b' → b ≤ b' → b' ≤ b + 10 → RwAt H' v r → Rk t r → Q v H'
section
variable {P : Program} {w : World} {K : PySem.W.Frag} {mg : Str → Option Value} {base : Heap} {fD fP fR : Addr}
theorem scNear : FnScope ["_law_source_here", "_law_some", "_law_rows", "_law_way", "_law_row_here", "_law_other", "_law_at"] ["_law_source_here", "_law_some", "_law_rows"] (defScope sNear) := ⟨rfl, rfl, rfl, by decide +kernel, rfl, by decide +kernel, by decide +kernel⟩
theorem ok_near {f : Addr} {fd fdD fdP fdR : FuncData} (F : Fun K "_law_near" "_law_near" sNear f fd) (T : TxtL K mg fD fP) (GD : FnOk P w K mg base CX0 1 fD fdD ["_law_source_here", "_law_many"] spDraw) (bD : Binds K fdD ["_law_source_here", "_law_many"] [])
    (GP : FnOk P w K mg base CX0 2 fP fdP ["_law_source_here", "_law_items"] (spPick K)) (bP : Binds K fdP ["_law_source_here", "_law_items"] [])
    (cR : Calls K mg "_law_row" fR) (GR : FnOk P w K mg base CX0 3 fR fdR ["_law_source_here", "_law_some"] spRowL) (bR : Binds K fdR ["_law_source_here", "_law_some"] []) :
    FnOk P w K mg base CX0 4 f fd ["_law_source_here", "_law_some", "_law_rows"] spNear := by
  refine F.ok scNear (fun vs H Q E h => ?_) (fun cdv A outer s H vs Q E hr h => ?_)
  · obtain ⟨s, l, sm, rl, ms, z, b, t, xs, rs, rfl, _⟩ := h
    rfl
  · obtain ⟨a, l, sm, rl, ms, z, b, t, xs, rs, rfl, hs, b0, b1, at_, g, erl, offr, rows, okr, few, k⟩ := h
    have hr1 : Room 1 _ := hr.mono (by decide)
    have hr2 : Room 2 _ := hr.mono (by decide)
    have hu : (A.deeper (PyProof.Rows.envOfC "_law_near" (defScope sNear) s.heap.objs.size f cdv)).units + 8 < cLine := by
      have := hr.units
      omega
    refine ⟨_, pss_cons (ps_set (i := 3) scNear.nd rfl (Or.inl rfl) (pe_call GD hr1 rfl T.gD T.kD bD .nil pass0 (pa_cons (pv 0) (pa_cons pe_int pa_nil))))
      (pss_cons (ps_if (PW.pt (pw_or (pt_cmpR (op_eqP hu) (pv 2) (pe_lst pa_nil) (nomark _)) (pw_or1 (pt_cmpR op_eq (pv 3) pe_int (nomark _)))))
        (pss_one (ps_ret (pe_call GR hr rfl cR.g cR.k bR .nil pass0 (pa_cons (pv 0) (pa_cons (pv 1) pa_nil))))) pss_nil)
      (pss_cons (ps_par3 (i := 4) (j := 5) (l := 6) rfl scNear.nd rfl rfl rfl (by decide) (by decide) (by decide) rfl rfl rfl
          (pa_cons (pe_call GP hr2 rfl T.gP T.kP bP .nil pass0 (pa_cons (pv 0) (pa_cons (pv 2) pa_nil)))
            (pa_cons (pe_call GR hr rfl cR.g cR.k bR .nil pass0 (pa_cons (pv 0) (pa_cons (pv 1) pa_nil)))
              (pa_cons (pe_call GD hr1 rfl T.gD T.kD bD .nil pass0 (pa_cons (pv 0) (pa_cons (pe_op op_add (pe_callB call_len_seq (by rfl) T.len (by decide +kernel) (pa_cons (pe_ix ix_tup (pv 1) pe_int (fun _ _ => rfl)) pa_nil))
                (pe_callB call_len_seq (by rfl) T.len (by decide +kernel) (pa_cons (pe_ix ix_tup (pv 1) pe_int (fun _ _ => rfl)) pa_nil))) pa_nil))) pa_nil))) (by rfl))
      (pss_one (ps_ret (pe_ix ix_list (pe_lst (pa_cons (pv 4) (pa_cons (pv 4) (pa_cons (pe_op op_catT2 (pe_op op_catT2 (pe_slice sl_T (pv 4) po_none (po_some (pv 6))) (pe_slice sl_T (pv 5) (po_some (pv 6)) (po_some (pe_op op_add (pv 6) pe_int))))
          (pe_slice sl_T (pv 4) (po_some (pe_op op_add (pv 6) pe_int)) po_none)) pa_nil)))) (pe_op op_sub (pv 3) pe_int) (fun _ _ => rfl)))))), ?_⟩
    have big : sizeLine > 1000 := by decide
    refine ⟨_, rfl, a, l, ms, z, b, 4, rfl, hs, by decide, by decide, b0, by omega, fun H1 ms1 way k1 hs1 w0 w4 => ?_⟩
    have e1 := k1 _ _ offr.1 offr.2 erl
    refine ⟨_, rfl, by show 0 ≤ sizeLine; omega, fun q hq => ?_⟩
    have s2 := same_upd (o := .lst []) hq
    have k2 : But a l H (upd H1 q (.lst [])) := k1.trans (.of_same s2)
    have hs2 := hs1.but s2
    have eq2 : upd H1 q (.lst []) q = some (.lst []) := upd_same
    have erl2 := s2 _ _ e1
    show rEqP _ _ _ _ (upd H1 q (.lst [])) _
    generalize upd H1 q (.lst []) = H2 at s2 k2 hs2 eq2 erl2 ⊢
    have fz2 : Fz H H2 := k2.fz hs
    have row : ∀ {H3 : Hp}, But a l H H3 → Src H3 a l ms1 z (b + 1) → ∃ (s' l' sm' : Addr) (ms' : List Int) (z' b' : Int) (t' : Ti), [V.ref a, V.ref sm] = [.ref s', .ref sm'] ∧ Src H3 s' l' ms' z' b' ∧ 0 ≤ b' ∧ b' < 800000 ∧ ArgT H3 sm' t' ∧ t'.ok ∧
        ∀ (H' : Hp) (ms'' : List Int) (b'' : Int) (v : V) (r : Row), But s' l' H3 H' → Src H' s' l' ms'' z' b'' → b' ≤ b'' → b'' ≤ b' + 4 → RwAt H' v r → Rk t' r → Q v H' := fun {H3} k3 hs3 =>
      ⟨a, l, sm, ms1, z, b + 1, t, rfl, hs3, by omega, by omega, at_.fz (k3.fz hs), g, fun H' ms'' b'' v r kk hh c1 c2 ra rk => k H' ms'' b'' v r (k3.trans kk) hh (by omega) (by omega) ra rk⟩
    refine ⟨.list (rs.map rowD), .list [], .lst (SqL.of erl2) (rows_dp (RowsAt.keep fz2 rows)), .lst (SqL.of eq2) .nil, rows_plain rs, rfl, ?_, _, rfl, ?_⟩
    · exact listD_depth rs
    have ev : PyData.eqv (.list (rs.map rowD)) (.list []) = decide (rs = []) := rows_eqv rs []
    show if PyData.eqv (.list (rs.map rowD)) (.list []) = true then _ else _
    rw [ev]
    by_cases er : rs = []
    · rw [decide_eq_true er]
      refine iteT (iteT ⟨_, rfl, _, rfl, row k2 hs2⟩)
    rw [decide_eq_false er]
    refine iteF ?_
    refine ⟨_, rfl, rfl, _, rfl, ?_⟩
    refine ite2 (fun e => ?_) (fun e => ?_)
    · exact ⟨_, rfl, _, rfl, row k2 hs2⟩
    have wn0 : way ≠ 0 := fun z => e (decide_eq_true (by rw [z]))
    have rpos : 0 < rs.length := List.length_pos_iff.mpr er
    have lx : xs.length = rs.length := rows.length
    refine ⟨_, rfl, _, rfl, a, l, .ref rl, ms1, z, b + 1, rfl, hs2, by omega, by omega, .inl ⟨rl, xs, rfl, fun H' kk => SqL.of (kk _ _ offr.1 offr.2 erl2), by omega, by omega, fun H3 ms3 v k3 hs3 hv => ?_⟩⟩
    have k03 := k2.trans k3
    obtain ⟨r, hr', ra⟩ := (RowsAt.keep (k03.fz hs) rows).left v hv
    have rk := okr r hr'
    refine ⟨_, rfl, _, rfl, a, l, sm, ms3, z, b + 1 + 1, t, rfl, hs3, by omega, by omega, at_.fz (k03.fz hs), g, fun H4 ms4 b4 v2 o k4 hs4 c41 c42 oa ok => ?_⟩
    have k04 := k03.trans k4
    have ra4 := ra.keep (k4.fz hs3)
    obtain ⟨ob, a1, a2, a3, h0, hod, T1, T2, T3⟩ := at_.fz (k04.fz hs)
    have h0' : SqT K H4 sm [.str t.nm, .ref a1, .ref a2, .ref a3] := .inl (.inr ⟨ob, h0⟩)
    have g2 := g.l2
    have g3 := g.l3
    have gn := g.ne
    rw [List.length_append] at gn
    refine ⟨_, rfl, _, rfl, sm, _, 1, .ref a1, rfl, rfl, h0', rfl, a1, _, rfl, .inr T1.sq, _, rfl, sm, _, 2, .ref a2, rfl, rfl, h0', rfl, a2, _, rfl, .inr T2.sq, _, _, rfl, rfl, a, l, ms4, z, b4, ((t.ss.map V.str).length : Int) + ((t.zs.map V.str).length : Int), rfl, hs4, by rw [List.length_map, List.length_map]; omega, by rw [List.length_map, List.length_map]; omega, by omega, by omega, fun H5 ms5 at' k5 hs5 p5 q5 => ?_⟩
    rw [List.length_map, List.length_map] at q5
    obtain ⟨n, rfl⟩ : ∃ n : Nat, at' = (n : Int) := ⟨at'.toNat, by omega⟩
    have nr : n < r.length := by rw [rk.ok.len]; omega
    have no : n < o.length := by rw [ok.ok.len]; omega
    have k05 := k04.trans k5
    have ra5 := ra4.keep (k5.fz hs4)
    have oa5 := oa.keep (k5.fz hs4)
    obtain ⟨pr, o1, rfl, hr1', hd1⟩ := ra5
    obtain ⟨po, o2, rfl, ho1, hd2⟩ := oa5
    refine ⟨_, _, _, rfl, ?_⟩
    have tr : TupV H5 pr (r.map Cell.v) := ⟨o1, hr1', hd1⟩
    have to : TupV H5 po (o.map Cell.v) := ⟨o2, ho1, hd2⟩
    refine ⟨_, rfl, _, rfl, _, rfl, _, rfl, (n : Int), rfl, pr, _, rfl, tr, fun q1 H6 s6 t6 => ?_⟩
    rw [cut_take] at t6
    refine ⟨_, rfl, _, rfl, (n : Int), rfl, _, rfl, _, _, rfl, rfl, (n : Int) + 1, rfl, po, _, rfl, to.fz (.of_same s6), fun q2 H7 s7 t7 => ?_⟩
    rw [cut_mid _ _ (by rw [List.length_map]; exact no)] at t7
    refine ⟨q1, q2, _, _, rfl, rfl, t6.fz (.of_same s7), t7, ?_, fun q3 H8 s8 t8 => ?_⟩
    · rw [List.length_take, List.length_take, List.length_map]
      omega
    have s58 := (s6.trans s7).trans s8
    refine ⟨_, rfl, _, rfl, _, _, rfl, rfl, (n : Int) + 1, rfl, pr, _, rfl, tr.fz (.of_same s58), fun q4 H9 s9 t9 => ?_⟩
    have c9 : cutV (r.map Cell.v) (some ((n : Int) + 1)) none = (r.map Cell.v).drop (n + 1) := cut_drop _ (n + 1)
    rw [c9] at t9
    refine ⟨q3, q4, _, _, rfl, rfl, t8.fz (.of_same s9), t9, ?_, fun q6 H10 s10 t10 => ?_⟩
    · rw [List.length_append, List.length_take, List.length_take, List.length_drop, List.length_drop, List.length_map, List.length_map]
      have := rk.ok.len
      omega
    have eo : o[n]? = some o[n] := List.getElem?_eq_getElem no
    rw [mix_set eo nr] at t10
    have s5A := (s58.trans s9).trans s10
    refine ⟨by show 3 ≤ sizeLine; omega, fun L hL => ?_⟩
    have sL := same_upd (o := .lst [V.ref pr, .ref pr, .ref q6]) hL
    have sA := s5A.trans sL
    have kA : But a l H (upd H10 L (.lst [V.ref pr, .ref pr, .ref q6])) := k05.trans (.of_same sA)
    have hsA := hs5.but sA
    have eL : upd H10 L (.lst [V.ref pr, .ref pr, .ref q6]) L = some (.lst [V.ref pr, .ref pr, .ref q6]) := upd_same
    have trA := tr.fz (.of_same sA)
    have t10A := t10.fz (.of_same sL)
    generalize upd H10 L (.lst [V.ref pr, .ref pr, .ref q6]) = HA at kA hsA eL trA t10A ⊢
    have fin1 : Q (.ref pr) HA := k HA ms5 _ (.ref pr) r kA hsA (by omega) (by omega) (let ⟨o, e, d⟩ := trA; ⟨pr, o, rfl, e, d⟩) rk
    have fin2 : Q (.ref q6) HA := k HA ms5 _ (.ref q6) (r.set n o[n]) kA hsA (by omega) (by omega) (let ⟨o, e, d⟩ := t10A; ⟨q6, o, rfl, e, d⟩) (rk.set ok eo)
    have w3 : way = 1 ∨ way = 2 ∨ way = 3 := by omega
    rcases w3 with e | e | e <;> subst e
    · exact ⟨_, rfl, _, _, rfl, rfl, L, [V.ref pr, .ref pr, .ref q6], 0, _, rfl, rfl, SqL.of eL, rfl, fin1⟩
    · exact ⟨_, rfl, _, _, rfl, rfl, L, [V.ref pr, .ref pr, .ref q6], 1, _, rfl, rfl, SqL.of eL, rfl, fin1⟩
    · exact ⟨_, rfl, _, _, rfl, rfl, L, [V.ref pr, .ref pr, .ref q6], 2, _, rfl, rfl, SqL.of eL, rfl, fin2⟩
end
end Vm
/-! the law: keys, rows that are barred -/
namespace Vm
open PySem L2
abbrev sKeyL : Stmt := top 51
abbrev sBarred : Stmt := top 52
def keyC (t : Ti) (r : Row) : Row := t.ks.map fun k => r.getD (t.cols.idxOf k) (.i 0)
theorem keyC_clash {t : Ti} (g : t.ok) {r o : Row} (h1 : Row.ok t r) (h2 : Row.ok t o) : (decide (t.ks ≠ []) && decide (keyC t o = keyC t r)) = clashR t r o := by
  unfold clashR
  show _ = clashB (t.ss ++ t.zs) t.ks _ _
  rw [← clash_ways g.nd g.sub]
  unfold clashL
  congr 1
  rw [Bool.eq_iff_iff, decide_eq_true_eq, List.all_eq_true]
  unfold keyC
  have lens := h1.len
  have leno := h2.len
  have vin : ∀ {a b : Cell}, a.v = b.v → a = b := by
    intro a b e
    cases a <;> cases b
    · exact congrArg Cell.s (V.str.inj e)
    · exact nomatch e
    · exact nomatch e
    · exact congrArg Cell.i (V.int.inj e)
  have get : ∀ (k : Str), k ∈ t.ks → ∀ (q : Row), q.length = t.ss.length + t.zs.length → (q.map Cell.v).getD (t.cols.idxOf k) .non = (q.getD (t.cols.idxOf k) (.i 0)).v := by
    intro k m q lq
    have lt := List.idxOf_lt_length_of_mem (g.sub k m)
    rw [List.length_append] at lt
    show (q.map Cell.v).getD ((t.ss ++ t.zs).idxOf k) .non = (q.getD ((t.ss ++ t.zs).idxOf k) (.i 0)).v
    rw [List.getD_eq_getElem?_getD, List.getD_eq_getElem?_getD, List.getElem?_map, List.getElem?_eq_getElem (by omega)]
    rfl
  constructor
  · intro e k m
    refine decide_eq_true ?_
    rw [show (t.ss ++ t.zs) = t.cols from rfl, get k m r lens, get k m o leno]
    have := List.map_inj_left.mp e k m
    rw [this]
  · intro e
    refine List.map_inj_left.mpr fun k m => ?_
    have := of_decide_eq_true (e k m)
    rw [show (t.ss ++ t.zs) = t.cols from rfl, get k m r lens, get k m o leno] at this
    exact (vin this).symm
def spKeyL : Sp := fun vs H Q _ => ∃ (sm : Addr) (x : V) (t : Ti) (r : Row), vs = [.ref sm, x] ∧ ArgT H sm t ∧ t.ok ∧ RwAt H x r ∧ Row.ok t r ∧ ∀ H' D, Same H H' → H D = none → H' D = some (.lst ((keyC t r).map Cell.v)) → Q (.ref D) H'
def spBarred (K : PySem.W.Frag) : Sp := fun vs H Q _ => ∃ (sm q : Addr) (x : V) (t : Ti) (r : Row) (ws : List V) (rs : List Row), vs = [.ref sm, .ref q, x] ∧ ArgT H sm t ∧ t.ok ∧ RwAt H x r ∧ SqL K H q ws ∧ RowsAt H ws rs ∧ Row.ok t r ∧ (∀ o ∈ rs, Row.ok t o) ∧ rs.length ≤ 100 ∧
  ∀ H', Same H H' → Q (.bl (rs.any (clashR t r))) H'
section
variable {P : Program} {w : World} {K : PySem.W.Frag} {mg : Str → Option Value} {base : Heap} {fK : Addr}
theorem scKeyL : FnScope ["_law_some", "_law_row_here", "_law_columns_here", "_law_column"] ["_law_some", "_law_row_here"] (defScope sKeyL) := ⟨rfl, rfl, rfl, by decide +kernel, rfl, by decide +kernel, by decide +kernel⟩
theorem scBarred : FnScope ["_law_some", "_law_rows", "_law_row_here", "_law_key_here", "_law_one"] ["_law_some", "_law_rows", "_law_row_here"] (defScope sBarred) := ⟨rfl, rfl, rfl, by decide +kernel, rfl, by decide +kernel, by decide +kernel⟩
theorem ok_keyl {f : Addr} {fd : FuncData} (F : Fun K "_law_key" "_law_key" sKeyL f fd) : FnOk P w K mg base CX0 1 f fd ["_law_some", "_law_row_here"] spKeyL := by
  refine F.ok scKeyL (fun vs H Q E h => ?_) (fun cdv A outer s H vs Q E hr h => ?_)
  · obtain ⟨sm, x, t, r, rfl, _⟩ := h
    rfl
  · obtain ⟨sm, x, t, r, rfl, ⟨o, a1, a2, a3, h0, hod, T1, T2, T3⟩, g, hx, ok, k⟩ := h
    obtain ⟨p, ob, rfl, hp, hpd⟩ := hx
    have big : sizeLine > 1000 := by decide
    have l2 := g.l2
    have l3 := g.l3
    have l4 := g.l4
    refine ⟨_, pss_cons (ps_set (i := 2) scKeyL.nd rfl (Or.inr rfl) (pe_op op_catE (pe_ix ix_tup (pv 0) pe_int (fun _ _ => rfl)) (pe_ix ix_tup (pv 0) pe_int (fun _ _ => rfl))))
      (pss_one (ps_ret (pe_lc (own := [("_law_column", 3)]) (g := gName 3) (tt := tYes) (te := tOp (rIxT K) (tVar 1) (tBMF (rIdx K) (tVar 2) (tCons (tVar 3) tNil))) rfl scKeyL.nd (pi_tup (pe_ix ix_tup (pv 0) pe_int (fun _ _ => rfl)))
            (blkOk_by (N := ["_law_some", "_law_row_here", "_law_columns_here", "_law_column"]) (sc := defScope sKeyL) (by decide +kernel))
            (fun _ _ _ _ _ => pg_name (i := 3) scKeyL.nd rfl (Or.inl rfl))
            (fun _ _ _ _ _ => pts_nil)
            (fun _ _ _ _ _ => by exact (pe_ix ix_tup (pv 1) (by exact (pe_bmF PySem.F.plainAttrs_tuple PySem.F.slot_tuple_index PySem.F.type_tuple_index mt_tup_index (pv 2) (pa_cons (pv 3) pa_nil))) (fun _ _ => rfl)))))), ?_⟩
    have at_ : ∀ {H' : Hp}, Same H H' → SqT K H' sm [.str t.nm, .ref a1, .ref a2, .ref a3] := fun {H'} s' => .inl (.inr ⟨o, s' _ _ h0⟩)
    refine ⟨_, rfl, sm, _, 1, .ref a1, rfl, rfl, at_ (Same.refl H), rfl, _, rfl, sm, _, 2, .ref a2, rfl, rfl, at_ (Same.refl H), rfl, a1, a2, _, _, rfl, rfl, .inr T1, .inr T2, by rw [List.length_map, List.length_map]; omega, fun c H1 s1 hc _ => ?_⟩
    rw [← List.map_append] at hc
    have hcS := hc.ts g.ne
    refine ⟨_, rfl, sm, _, 3, .ref a3, rfl, rfl, at_ s1, rfl, a3, rfl, ⟨_, (T3.same s1).sq⟩, fun D hD => ?_⟩
    refine lc_tup (K := K) (a := a3) (xs := t.ks.map V.str) (fun i H' => Same H1 H' ∧ H' D = some (.lst (((t.ks.take i).map fun k => r.getD (t.cols.idxOf k) (.i 0)).map Cell.v))) ⟨same_upd hD, upd_same⟩ (fun i H' _ z => (T3.same (s1.trans z.1)).sq) ?_ ?_
    · rintro i y H3 hi ⟨s3, e3⟩
      obtain ⟨u, eu, rfl⟩ := map_at hi
      have iu : i < t.ks.length := (List.getElem?_eq_some_iff.mp eu).1
      have mem := g.sub u (List.mem_of_getElem? eu)
      obtain ⟨f1, f2⟩ := idx_first mem
      have lt := List.idxOf_lt_length_of_mem mem
      rw [List.length_append] at lt
      obtain ⟨oc, hoc, hocd⟩ := hcS.same s3
      have lr := ok.len
      generalize hj : (t.ss ++ t.zs).idxOf u = j at f1 f2 lt
      have jr : (r.map Cell.v)[j]? = some (r.getD j (.i 0)).v := by
        rw [List.getElem?_map, List.getD_eq_getElem?_getD, List.getElem?_eq_getElem (by omega)]
        rfl
      refine ⟨rfl, ?_⟩
      dsimp only [tYes]
      rw [if_pos rfl]
      refine ⟨_, rfl, _, rfl, ⟨c, oc, _, rfl, hoc, hocd⟩, _, rfl, c, t.ss ++ t.zs, u, j, rfl, rfl, TupS.sq ⟨oc, hoc, hocd⟩, f1, f2, p, _, (j : Int), _, rfl, rfl, .inl (.inr ⟨ob, s3 _ _ (s1 _ _ hp)⟩), atI_nat jr, ?_⟩
      refine ⟨_, e3, ?_, fun b u' e => ?_, ?_⟩
      · rw [List.length_map, List.length_map, List.length_take]
        omega
      · rw [upd_ne (ne_of_none e hD)]
        exact s3 b u' e
      · rw [upd_same, List.take_add_one, eu]
        simp [Ti.cols, hj]
    · rintro H3 ⟨s3, e3⟩
      rw [List.length_map, List.take_length] at e3
      exact k H3 D (s1.trans s3) (s1.free hD) e3
theorem ok_barred {f : Addr} {fd fdK : FuncData} (F : Fun K "_law_is_barred" "_law_is_barred" sBarred f fd) (cK : Calls K mg "_law_key" fK) (GK : FnOk P w K mg base CX0 1 fK fdK ["_law_some", "_law_row_here"] spKeyL) (bK : Binds K fdK ["_law_some", "_law_row_here"] []) :
    FnOk P w K mg base CX0 2 f fd ["_law_some", "_law_rows", "_law_row_here"] (spBarred K) := by
  refine F.ok scBarred (fun vs H Q E h => ?_) (fun cdv A outer s H vs Q E hr h => ?_)
  · obtain ⟨sm, q, x, t, r, ws, rs, rfl, _⟩ := h
    rfl
  · obtain ⟨sm, q, x, t, r, ws, rs, rfl, at_, g, hx, hq, hrs, o1, o2, few, k⟩ := h
    have hu : (A.deeper (PyProof.Rows.envOfC "_law_is_barred" (defScope sBarred) s.heap.objs.size f cdv)).units + 8 < cLine := by
      have := hr.units
      omega
    have big : sizeLine > 1000 := by decide
    refine ⟨_, pss_cons (ps_set (i := 3) scBarred.nd rfl (Or.inr rfl) (pe_call GK hr rfl cK.g cK.k bK .nil pass0 (pa_cons (pv 0) (pa_cons (pv 2) pa_nil))))
      (pss_one (ps_ret (pe_and (pe_cmpR (op_neP hu) (pe_ix ix_tup (pv 0) pe_int (fun _ _ => rfl)) (pe_tupF pa_nil) (nomark _))
        (pe_one (pe_cmpR (op_neP hu) (pe_lc (own := [("_law_one", 4)]) (g := gName 4) (tt := tTest (tOp (rEqP K false) (tCall spKeyL [] E0 (tCons (tVar 0) (tCons (tVar 4) tNil))) (tVar 3))) (te := tVar 4) rfl scBarred.nd (pi_list (pv 1))
            (blkOk_by (N := ["_law_some", "_law_rows", "_law_row_here", "_law_key_here", "_law_one"]) (sc := defScope sBarred) (by decide +kernel))
            (fun _ _ _ _ _ => pg_name (i := 4) scBarred.nd rfl (Or.inl rfl))
            (fun _ _ _ _ _ => by exact (pts_one (pt_cmpR (op_eqP hu) (pe_call GK hr rfl cK.g cK.k bK .nil pass0 (pa_cons (pv 0) (pa_cons (pv 4) pa_nil))) (pv 3) (nomark _))))
            (fun _ _ _ _ _ => by exact (pv 4))) (pe_lst pa_nil) (nomark _)))))), ?_⟩
    refine ⟨_, rfl, _, rfl, sm, x, t, r, rfl, at_, g, hx, o1, fun H1 kk s1 hkn hk => ?_⟩
    have at1 := at_.fz (Fz.of_same s1)
    obtain ⟨o, a1, a2, a3, h0, hod, T1, T2, T3⟩ := at1
    refine ⟨_, rfl, sm, _, 3, .ref a3, rfl, rfl, .inl (.inr ⟨o, h0⟩), rfl, Nat.zero_le _, fun tp ot ht hot => ?_⟩
    have s2 : Same H1 (upd H1 tp (.frz ot (.tup []))) := same_upd ht
    have et : upd H1 tp (.frz ot (.tup [])) tp = some (.frz ot (.tup [])) := upd_same
    generalize upd H1 tp (.frz ot (.tup [])) = H2 at s2 et ⊢
    have pks : PyData.plainAll (t.ks.map PyData.str) = true := by
      have : ∀ ss : List Str, PyData.plainAll (ss.map PyData.str) = true := by
        intro ss
        induction ss with
        | nil => rfl
        | cons x r ih =>
          show (true && PyData.plainAll (r.map PyData.str)) = true
          rw [ih]
          rfl
      exact this t.ks
    refine ⟨.tuple (t.ks.map PyData.str), .tuple [], .tup (T3.same s2).sq (dpStrs K _ t.ks), .tup (.inl (.inr ⟨ot, et⟩)) .nil, pks, rfl, ?_, _, rfl, ?_⟩
    · simp only [PyData.depth, depthStrs]
      decide
    have ev : PyData.eqv (.tuple (t.ks.map PyData.str)) (.tuple []) = decide (t.ks = []) := eqvStrs t.ks []
    show if (!PyData.eqv (.tuple (t.ks.map PyData.str)) (.tuple [])) = true then _ else _
    rw [ev]
    have s12 := s1.trans s2
    have any_ : rs.any (clashR t r) = (decide (t.ks ≠ []) && rs.any fun o => decide (keyC t o = keyC t r)) := by
      have : ∀ l : List Row, (∀ o ∈ l, Row.ok t o) → l.any (clashR t r) = (decide (t.ks ≠ []) && l.any fun o => decide (keyC t o = keyC t r)) := by
        intro l
        induction l with
        | nil => intro _; rw [List.any_nil, List.any_nil, Bool.and_false]
        | cons a l ih =>
          intro h
          rw [List.any_cons, List.any_cons, ih fun o m => h o (List.mem_cons_of_mem _ m), ← keyC_clash g o1 (h a List.mem_cons_self)]
          cases decide (t.ks ≠ []) <;> rfl
      exact this rs o2
    rw [any_] at k
    by_cases en : t.ks = []
    · rw [decide_eq_true en]
      refine iteF ?_
      rw [decide_eq_false (fun z => z en), Bool.false_and] at k
      exact k H2 s12
    rw [decide_eq_false en]
    refine iteT ?_
    rw [decide_eq_true en, Bool.true_and] at k
    have hq2 := s12.seq hq
    have rs2 := RowsAt.keep (Fz.of_same s12) hrs
    have hk2 := s2 _ _ hk
    refine ⟨_, rfl, q, rfl, ⟨_, hq2⟩, fun D hD => ?_⟩
    refine lc_list (K := K) (a := q) (xs := ws) (fun i H' => Same H2 H' ∧ ∃ zs, H' D = some (.lst zs) ∧ RowsAt H2 zs ((rs.take i).filter fun o => decide (keyC t o = keyC t r)) ∧ zs.length ≤ i) ⟨same_upd hD, [], upd_same, .nil, Nat.le_refl _⟩ (fun i H' _ z => z.1.seq hq2) ?_ ?_
    · rintro i y H3 hi ⟨s3, zs, e3, z3, lz⟩
      refine ⟨rfl, ?_⟩
      obtain ⟨o', eo, ho⟩ := each_get rs2 hi
      have mem := List.mem_of_getElem? eo
      have li : i < ws.length := (List.getElem?_eq_some_iff.mp hi).1
      have lw : ws.length = rs.length := hrs.length
      have s13 := s12.trans s3
      refine ⟨_, rfl, _, rfl, sm, y, t, o', rfl, at_.fz (Fz.of_same s13), g, ho.keep (Fz.of_same s3), o2 o' mem, fun H4 k4 s4 hn4 hk4 => ?_⟩
      have hk' := s4 _ _ (s3 _ _ hk2)
      refine ⟨_, rfl, .list ((keyC t o').map Cell.d), .list ((keyC t r).map Cell.d), .lst (SqL.of hk4) (cellsDp _), .lst (SqL.of hk') (cellsDp _), cells_plain _, cells_plain _, ?_, _, rfl, ?_⟩
      · simp only [PyData.depth, cells_depth]
        decide
      have e2 : PyData.eqv (.list ((keyC t o').map Cell.d)) (.list ((keyC t r).map Cell.d)) = decide (keyC t o' = keyC t r) := cells_eqv _ _
      show if PyData.eqv (.list ((keyC t o').map Cell.d)) (.list ((keyC t r).map Cell.d)) = true then _ else _
      rw [e2]
      have st := filter_next (p := fun o => decide (keyC t o = keyC t r)) eo
      have s24 := s3.trans s4
      by_cases e : decide (keyC t o' = keyC t r) = true
      · rw [e]
        refine iteT ⟨_, rfl, zs, s4 _ _ e3, by omega, fun b u eu => ?_, zs ++ [y], upd_same, ?_, ?_⟩
        · rw [upd_ne (ne_of_none eu hD)]
          exact s24 b u eu
        · rw [st, if_pos e]
          exact each_append z3 (.cons ho .nil)
        · rw [List.length_append]
          show zs.length + 1 ≤ i + 1
          omega
      · rw [Bool.eq_false_iff.mpr e]
        refine iteF ⟨s24, zs, s4 _ _ e3, ?_, by omega⟩
        rw [st, if_neg e]
        exact z3
    · rintro H3 ⟨s3, zs, e3, z3, lz⟩
      rw [hrs.length, List.take_length] at z3
      refine ⟨by show 0 ≤ sizeLine; omega, fun q2 hq2' => ?_⟩
      have s4 := same_upd (o := .lst []) hq2'
      have eq2 : upd H3 q2 (.lst []) q2 = some (.lst []) := upd_same
      generalize upd H3 q2 (.lst []) = H4 at s4 eq2 ⊢
      have s14 := (s12.trans s3).trans s4
      refine ⟨.list ((rs.filter fun o => decide (keyC t o = keyC t r)).map rowD), .list [], .lst (SqL.of (s4 _ _ e3)) (rows_dp (RowsAt.keep (Fz.of_same (s3.trans s4)) z3)), .lst (SqL.of eq2) .nil, rows_plain _, rfl, listD_depth _, ?_⟩
      have e5 : (!PyData.eqv (.list ((rs.filter fun o => decide (keyC t o = keyC t r)).map rowD)) (.list [])) = rs.any fun o => decide (keyC t o = keyC t r) := by
        have := rows_eqv (rs.filter fun o => decide (keyC t o = keyC t r)) []
        show (!PyData.eqvAll ((rs.filter fun o => decide (keyC t o = keyC t r)).map rowD) (List.map rowD [])) = _
        rw [this, Bool.eq_iff_iff, Bool.not_eq_true', decide_eq_false_iff_not, List.filter_eq_nil_iff, List.any_eq_true]
        constructor
        · intro h
          exact Classical.byContradiction fun n => h fun a m c => n ⟨a, m, c⟩
        · rintro ⟨a, m, c⟩ h
          exact h a m c
      show Q (.bl (!PyData.eqv (.list ((rs.filter fun o => decide (keyC t o = keyC t r)).map rowD)) (.list []))) H4
      rw [e5]
      exact k H4 s14
end
end Vm
/-! the law: what is possible -/
namespace Vm
open PySem L2
abbrev sPossL : Stmt := top 53
def delS : Str := "delete"
def repS : Str := "replace"
theorem lenV_cases {kd : Str} {n : Nat} (h : lenV kd = .int ((n + 2 : Nat) : Int)) : (kd = delS ∧ n = 1) ∨ (kd = insS ∧ n = 1) ∨ (kd = repS ∧ n = 2) := by
  unfold lenV at h
  split at h
  · rename_i e
    have := V.int.inj h
    exact .inr (.inl ⟨e, by omega⟩)
  · split at h
    · rename_i e
      have := V.int.inj h
      exact .inl ⟨e, by omega⟩
    · split at h
      · rename_i e
        have := V.int.inj h
        exact .inr (.inr ⟨e, by omega⟩)
      · cases h
theorem del_ins : ¬ delS = insS := by decide +kernel
theorem rep_ins : ¬ repS = insS := by decide +kernel
theorem rep_del : ¬ repS = delS := by decide +kernel
theorem poss_del (t : Ti) (r : Row) (rs : List Row) : possR t delS [r] rs = decide (r ∈ rs) := by
  unfold possR takenR putR
  rw [if_neg del_ins, if_neg del_ins]
  simp
theorem poss_ins (t : Ti) (r : Row) (rs : List Row) : possR t insS [r] rs = (!decide (r ∈ rs) && !rs.any (clashR t r)) := by
  have e : leftR insS [r] rs = rs := by
    unfold leftR takenR
    rw [if_pos rfl]
    simp
  unfold possR takenR putR
  rw [if_pos rfl, if_pos rfl, e]
  simp
theorem poss_rep (t : Ti) (r o : Row) (rs : List Row) : possR t repS [r, o] rs = (decide (r ∈ rs) && !decide (o ∈ rs) && !(rs.filter fun q => !decide (q = r)).any (clashR t o)) := by
  have e : leftR repS [r, o] rs = rs.filter fun q => !decide (q = r) := by
    unfold leftR takenR
    rw [if_neg rep_ins]
    simp
  unfold possR takenR putR
  rw [if_neg rep_ins, if_neg rep_ins, e]
  simp [Bool.and_assoc]
theorem nm_same {ts : List Ti} {i j : Nat} {a b : Ti} (nd : (ts.map Ti.nm).Nodup) (h1 : ts[i]? = some a) (h2 : ts[j]? = some b) (e : a.nm = b.nm) : i = j := by
  have x := first_nm nd h1
  have y := first_nm nd h2
  rw [e, y] at x
  exact (Option.some.inj x).symm
theorem at0 {a : V} {l : List V} : atI (a :: l) 0 = some a := by
  have h := atI_nat (xs := a :: l) (j := 0) (v := a) rfl
  exact h
theorem at1 {a b : V} {l : List V} : atI (a :: b :: l) 1 = some b := by
  have h := atI_nat (xs := a :: b :: l) (j := 1) (v := b) rfl
  exact h
def spPossL (K : PySem.W.Frag) : Sp := fun vs H Q _ => ∃ (w p : Addr) (ps rls : List Addr) (ts : List Ti) (rss : List (List Row)) (kd : Str) (i : Nat) (ti : Ti) (xs : List V) (us rs : List Row), vs = [.ref w, .ref p] ∧ Wl H w ps rls ts rss ∧ (ts.map Ti.nm).Nodup ∧
  SqT K H p (.str kd :: .str ti.nm :: xs) ∧ RowsAt H xs us ∧ ts[i]? = some ti ∧ rss[i]? = some rs ∧ ti.ok ∧ (∀ r ∈ us, Row.ok ti r) ∧ (∀ r ∈ rs, Row.ok ti r) ∧ rs.length ≤ 100 ∧ ts.length ≤ 3 ∧ lenV kd = .int ((us.length + 2 : Nat) : Int) ∧
  ∀ H', Same H H' → Q (.bl (possR ti kd us rs)) H'
section
variable {P : Program} {w : World} {K : PySem.W.Frag} {mg : Str → Option Value} {base : Heap} {fB : Addr}
theorem scPossL : FnScope ["_law_world_here", "_law_change_here", "_law_some", "_law_rows", "_law_pair", "_law_one"] ["_law_world_here", "_law_change_here"] (defScope sPossL) := ⟨rfl, rfl, rfl, by decide +kernel, rfl, by decide +kernel, by decide +kernel⟩
theorem ok_possl {f : Addr} {fd fdB : FuncData} (F : Fun K "_law_is_possible" "_law_is_possible" sPossL f fd) (cB : Calls K mg "_law_is_barred" fB) (GB : FnOk P w K mg base CX0 2 fB fdB ["_law_some", "_law_rows", "_law_row_here"] (spBarred K)) (bB : Binds K fdB ["_law_some", "_law_rows", "_law_row_here"] []) :
    FnOk P w K mg base CX0 3 f fd ["_law_world_here", "_law_change_here"] (spPossL K) := by
  refine F.ok scPossL (fun vs H Q E h => ?_) (fun cdv A outer s H vs Q E hr h => ?_)
  · obtain ⟨w, p, ps, rls, ts, rss, kd, i, ti, xs, us, rs, rfl, _⟩ := h
    rfl
  · obtain ⟨w, p, ps, rls, ts, rss, kd, i, ti, xs, us, rs, rfl, wl, nd, hp, hus, et, er, g, o1, o2, few, few3, hl, k⟩ := h
    have hu : (A.deeper (PyProof.Rows.envOfC "_law_is_possible" (defScope sPossL) s.heap.objs.size f cdv)).units + 8 < cLine := by
      have := hr.units
      omega
    have big : sizeLine > 1000 := by decide
    refine ⟨_, pss_cons (ps_asg (pe_ix ix_list (pe_lc (own := [("_law_pair", 4)]) (g := gName 4) (tt := tTest (tOp rEq (tOp (rIxT K) (tOp (rIxL K) (tVar 4) (tC (.int 0))) (tC (.int 0))) (tOp (rIxT K) (tVar 1) (tC (.int 1))))) (te := tVar 4) rfl scPossL.nd (pi_list (pv 0))
            (blkOk_by (N := ["_law_world_here", "_law_change_here", "_law_some", "_law_rows", "_law_pair", "_law_one"]) (sc := defScope sPossL) (by decide +kernel)) (fun _ _ _ _ _ => pg_name (i := 4) scPossL.nd rfl (Or.inl rfl))
            (fun _ _ _ _ _ => by exact (pts_one (pt_cmpR op_eq (pe_ix ix_tup (pe_ix ix_list (pv 4) pe_int (fun _ _ => rfl)) pe_int (fun _ _ => rfl)) (pe_ix ix_tup (pv 1) pe_int (fun _ _ => rfl)) (nomark _)))) (fun _ _ _ _ _ => by exact (pv 4))) pe_int (fun _ _ => rfl))
          (pg_lst rfl (pgs_cons (pg_name (i := 2) scPossL.nd rfl (Or.inl rfl)) (pgs_cons (pg_name (i := 3) scPossL.nd rfl (Or.inl rfl)) pgs_nil))))
      (pss_cons (ps_if (pt_cmpR op_eq (pe_ix ix_tup (pv 1) pe_int (fun _ _ => rfl)) pe_str (nomark _)) (pss_one (ps_ret (pe_cmpR (op_inR hu) (pe_ix ix_tup (pv 1) pe_int (fun _ _ => rfl)) (pv 3) (by rfl)))) pss_nil)
      (pss_cons (ps_if (pt_cmpR op_eq (pe_ix ix_tup (pv 1) pe_int (fun _ _ => rfl)) pe_str (nomark _)) (pss_one (ps_ret (pe_and (pe_cmpR (op_notInR hu) (pe_ix ix_tup (pv 1) pe_int (fun _ _ => rfl)) (pv 3) (by rfl))
          (pe_one (pe_not (pe_call GB hr rfl cB.g cB.k bB .nil pass0 (pa_cons (pv 2) (pa_cons (pv 3) (pa_cons (pe_ix ix_tup (pv 1) pe_int (fun _ _ => rfl)) pa_nil))))))))) pss_nil)
      (pss_cons (ps_if (PW.pt (pw_or (pt_cmpR (op_notInR hu) (pe_ix ix_tup (pv 1) pe_int (fun _ _ => rfl)) (pv 3) (by rfl)) (pw_or1 (pt_cmpR (op_inR hu) (pe_ix ix_tup (pv 1) pe_int (fun _ _ => rfl)) (pv 3) (by rfl))))) (pss_one (ps_ret pe_bl)) pss_nil)
      (pss_one (ps_ret (pe_not (pe_call GB hr rfl cB.g cB.k bB .nil pass0 (pa_cons (pv 2) (pa_cons (pe_lc (own := [("_law_one", 5)]) (g := gName 5) (tt := tTest (tOp (rEqP K true) (tVar 5) (tOp (rIxT K) (tVar 1) (tC (.int 2))))) (te := tVar 5) rfl scPossL.nd (pi_list (pv 3))
            (blkOk_by (N := ["_law_world_here", "_law_change_here", "_law_some", "_law_rows", "_law_pair", "_law_one"]) (sc := defScope sPossL) (by decide +kernel)) (fun _ _ _ _ _ => pg_name (i := 5) scPossL.nd rfl (Or.inl rfl))
            (fun _ _ _ _ _ => by exact (pts_one (pt_cmpR (op_neP hu) (pv 5) (pe_ix ix_tup (pv 1) pe_int (fun _ _ => rfl)) (nomark _)))) (fun _ _ _ _ _ => by exact (pv 5))) (pa_cons (pe_ix ix_tup (pv 1) pe_int (fun _ _ => rfl)) pa_nil)))))))))), ?_⟩
    have ilt : i < ts.length := (List.getElem?_eq_some_iff.mp et).1
    obtain ⟨p0, rl, ti', rs', ep, erl, et', er', sm, vs, hp0, ha, hrl, hrs⟩ := wl.at ilt
    rw [et] at et'
    obtain rfl := Option.some.inj et'
    rw [er] at er'
    obtain rfl := Option.some.inj er'
    refine ⟨_, rfl, w, rfl, ⟨_, SqL.of wl.hw⟩, fun D hD => ?_⟩
    refine lc_list (K := K) (a := w) (xs := ps.map V.ref) (fun j H' => Same H H' ∧ H' D = some (.lst (if i < j then [V.ref p0] else []))) ⟨same_upd hD, by rw [if_neg (Nat.not_lt_zero _)]; exact upd_same⟩ (fun j H' _ z => SqL.of (z.1 _ _ wl.hw)) ?_ ?_
    · rintro j y H2 hj ⟨s2, e2⟩
      have jlt : j < ts.length := by
        have := (List.getElem?_eq_some_iff.mp hj).1
        rw [List.length_map, wl.lp] at this
        exact this
      obtain ⟨pj, rlj, tj, rsj, f1, _, f3, _, smj, vsj, h0, ⟨oj, b1, b2, b3, hsj, hodj, _⟩, _, _⟩ := wl.at jlt
      rw [List.getElem?_map, f1] at hj
      obtain rfl := Option.some.inj hj
      refine ⟨rfl, ?_⟩
      refine ⟨_, rfl, pj, _, 0, .ref smj, rfl, rfl, SqL.of (s2 _ _ h0), rfl, smj, _, 0, .str tj.nm, rfl, rfl, .inl (.inr ⟨oj, s2 _ _ hsj⟩), rfl, _, rfl, p, _, 1, .str ti.nm, rfl, rfl, sameT s2 hp, at1, rfl, _, rfl, ?_⟩
      have ed : decide (V.str tj.nm = V.str ti.nm) = decide (j = i) := decide_eq_decide.mpr ⟨fun e => nm_same nd f3 et (V.str.inj e), fun e => by
        rw [e, et] at f3
        obtain rfl := Option.some.inj f3
        rfl⟩
      rw [ed]
      by_cases e : j = i
      · rw [decide_eq_true e]
        subst e
        rw [f1] at ep
        obtain rfl := Option.some.inj ep
        rw [if_neg (Nat.lt_irrefl _)] at e2
        refine iteT ⟨_, rfl, _, e2, by show 0 < sizeLine; omega, fun b u eu => ?_, ?_⟩
        · rw [upd_ne (ne_of_none eu hD)]
          exact s2 b u eu
        · rw [upd_same, if_pos (Nat.lt_succ_self _)]
          rfl
      · rw [decide_eq_false e]
        refine iteF ⟨s2, ?_⟩
        rw [e2]
        by_cases q : i < j
        · rw [if_pos q, if_pos (by omega)]
        · rw [if_neg q, if_neg (by omega)]
    rintro H2 ⟨s2, e2⟩
    rw [List.length_map, wl.lp, if_pos ilt] at e2
    refine ⟨D, _, 0, .ref p0, rfl, rfl, SqL.of e2, rfl, p0, [.ref sm, .ref rl], rfl, SqL.of (s2 _ _ hp0), rfl, _, _, rfl, _, _, rfl, rfl, ?_⟩
    have hp2 := sameT s2 hp
    have hus2 := RowsAt.keep (Fz.of_same s2) hus
    have hrs2 := RowsAt.keep (Fz.of_same s2) hrs
    have hrl2 : SqL K H2 rl vs := SqL.of (s2 _ _ hrl)
    have ha2 := ha.fz (Fz.of_same s2)
    -- delete
    refine ⟨_, rfl, p, _, 0, .str kd, rfl, rfl, hp2, at0, rfl, _, rfl, ?_⟩
    show if decide (V.str kd = V.str delS) = true then _ else _
    rcases lenV_cases hl with ⟨e, ln⟩ | ⟨e, ln⟩ | ⟨e, ln⟩ <;> subst e
    · rw [decide_eq_true rfl]
      obtain ⟨r, rfl⟩ : ∃ r, us = [r] := List.length_eq_one_iff.mp ln
      obtain ⟨x, rfl⟩ : ∃ x, xs = [x] := List.length_eq_one_iff.mp (by rw [hus.length]; rfl)
      cases hus2 with
      | cons hx _ =>
        refine iteT ⟨_, rfl, p, _, 2, x, rfl, rfl, hp2, rfl, _, rfl, r, rl, _, _, hx, rfl, .inr hrl2, hrs2, ?_⟩
        show Q (.bl (decide (r ∈ rs))) H2
        rw [← poss_del ti]
        exact k H2 s2
    · rw [decide_eq_false fun z => del_ins (V.str.inj z).symm]
      obtain ⟨r, rfl⟩ : ∃ r, us = [r] := List.length_eq_one_iff.mp ln
      obtain ⟨x, rfl⟩ : ∃ x, xs = [x] := List.length_eq_one_iff.mp (by rw [hus.length]; rfl)
      refine iteF ?_
      refine ⟨_, rfl, p, _, 0, .str insS, rfl, rfl, hp2, at0, rfl, _, rfl, ?_⟩
      show if decide (V.str insS = V.str insS) = true then _ else _
      rw [decide_eq_true rfl]
      cases hus2 with
      | cons hx _ =>
        refine iteT ⟨_, rfl, p, _, 2, x, rfl, rfl, hp2, rfl, _, rfl, r, rl, _, _, hx, rfl, .inr hrl2, hrs2, _, rfl, ?_⟩
        show if (!decide (r ∈ rs)) = true then _ else _
        rw [poss_ins] at k
        by_cases e : r ∈ rs
        · rw [decide_eq_true e] at k ⊢
          exact iteF (k H2 s2)
        · rw [decide_eq_false e] at k ⊢
          refine iteT ⟨_, rfl, _, rfl, _, rfl, p, _, 2, x, rfl, rfl, hp2, rfl, sm, rl, x, ti, r, vs, rs, rfl, ha2, g, hx, hrl2, hrs2, o1 r List.mem_cons_self, o2, few, fun H3 s3 => ⟨_, rfl, k H3 (s2.trans s3)⟩⟩
    · rw [decide_eq_false fun z => rep_del (V.str.inj z)]
      obtain ⟨r, o, rfl⟩ := two_of ln
      obtain ⟨x, y, rfl⟩ := two_of (xs := xs) (by rw [hus.length]; rfl)
      refine iteF ?_
      refine ⟨_, rfl, p, _, 0, .str repS, rfl, rfl, hp2, at0, rfl, _, rfl, ?_⟩
      show if decide (V.str repS = V.str insS) = true then _ else _
      rw [decide_eq_false fun z => rep_ins (V.str.inj z)]
      refine iteF ?_
      rw [poss_rep] at k
      cases hus2 with
      | cons hx t2 =>
        cases t2 with
        | cons hy _ =>
          refine ⟨_, rfl, p, _, 2, x, rfl, rfl, hp2, rfl, _, rfl, r, rl, _, _, hx, rfl, .inr hrl2, hrs2, _, rfl, ?_⟩
          show if (!decide (r ∈ rs)) = true then _ else _
          by_cases e : r ∈ rs
          · rw [decide_eq_true e] at k ⊢
            refine iteF ?_
            refine ⟨_, rfl, p, _, 3, y, rfl, rfl, hp2, rfl, _, rfl, o, rl, _, _, hy, rfl, .inr hrl2, hrs2, _, rfl, ?_⟩
            show if (decide (o ∈ rs)) = true then _ else _
            by_cases e' : o ∈ rs
            · rw [decide_eq_true e'] at k ⊢
              exact iteT (k H2 s2)
            · rw [decide_eq_false e'] at k ⊢
              refine iteF ?_
              refine ⟨_, rfl, _, rfl, rl, rfl, ⟨_, hrl2⟩, fun D2 hD2 => ?_⟩
              refine lc_list (K := K) (a := rl) (xs := vs) (fun i H' => Same H2 H' ∧ ∃ zs, H' D2 = some (.lst zs) ∧ RowsAt H2 zs ((rs.take i).filter fun q => !decide (q = r)) ∧ zs.length ≤ i) ⟨same_upd hD2, [], upd_same, .nil, Nat.le_refl _⟩ (fun i H' _ z => z.1.seq hrl2) ?_ ?_
              · rintro j v H3 hi ⟨s3, zs, e3, z3, lz⟩
                refine ⟨rfl, ?_⟩
                obtain ⟨o', eo, ho⟩ := each_get hrs2 hi
                have li : j < vs.length := (List.getElem?_eq_some_iff.mp hi).1
                have lw : vs.length = rs.length := hrs2.length
                refine ⟨_, rfl, _, rfl, p, _, 2, x, rfl, rfl, sameT s3 hp2, rfl, rowD o', rowD r, (ho.keep (Fz.of_same s3)).dp, (hx.keep (Fz.of_same s3)).dp, row_plain _, row_plain _, by rw [row_depth]; decide, _, rfl, ?_⟩
                show if (!PyData.eqv (rowD o') (rowD r)) = true then _ else _
                rw [row_eqv]
                have st := filter_next (p := fun q => !decide (q = r)) eo
                by_cases e : (!decide (o' = r)) = true
                · rw [e]
                  refine iteT ⟨_, rfl, zs, e3, by omega, fun b u eu => ?_, zs ++ [v], upd_same, ?_, ?_⟩
                  · rw [upd_ne (ne_of_none eu hD2)]
                    exact s3 b u eu
                  · rw [st, if_pos e]
                    exact each_append z3 (.cons ho .nil)
                  · rw [List.length_append]
                    show zs.length + 1 ≤ j + 1
                    omega
                · rw [Bool.eq_false_iff.mpr e]
                  refine iteF ⟨s3, zs, e3, ?_, by omega⟩
                  rw [st, if_neg e]
                  exact z3
              · rintro H3 ⟨s3, zs, e3, z3, lz⟩
                rw [hrs2.length, List.take_length] at z3
                have fl : (rs.filter fun q => !decide (q = r)).length ≤ rs.length := List.length_filter_le _ _
                refine ⟨_, rfl, p, _, 3, y, rfl, rfl, sameT s3 hp2, rfl, sm, D2, y, ti, o, zs, _, rfl, ha2.fz (Fz.of_same s3), g, hy.keep (Fz.of_same s3), SqL.of e3, RowsAt.keep (Fz.of_same s3) z3, o1 o (List.mem_cons_of_mem _ List.mem_cons_self), fun q m => o2 q (List.mem_filter.mp m).1, by omega, fun H4 s4 => ⟨_, rfl, k H4 ((s2.trans s3).trans s4)⟩⟩
          · rw [decide_eq_false e] at k ⊢
            exact iteT (iteT (k H2 s2))
end
end Vm
/-! the law: a change -/
namespace Vm
open PySem L2
abbrev sChangeL : Stmt := top 54
/-- a change of a table, made here -/
def DeedAt (H : Hp) (p : Addr) (kd nm : Str) (us : List Row) : Prop := ∃ (o : Obj) (xs : List V), H p = some (.frz o (.tup (.str kd :: .str nm :: xs))) ∧ o.dict = none ∧ RowsAt H xs us
theorem DeedAt.fz {H H' : Hp} {p : Addr} {kd nm : Str} {us : List Row} (h : DeedAt H p kd nm us) (k : Fz H H') : DeedAt H' p kd nm us := let ⟨o, xs, e, d, r⟩ := h; ⟨o, xs, k _ _ _ e, d, RowsAt.keep k r⟩
/-- the rows that the law keeps fit -/
def RkFit (N : Nat) (ts : List Ti) (rss : List (List Row)) : Prop := ∀ (i : Nat) (ti : Ti) (rs : List Row), ts[i]? = some ti → rss[i]? = some rs → (∀ r ∈ rs, Rk ti r) ∧ rs.length ≤ N
theorem lenV_rep : lenV repS = .int 4 := by decide +kernel
def tWay : TE := fun σ H Q => ∃ (n : Int) (a l : Addr) (ms : List Int) (z b : Int), σ[4]? = some (some (.int n)) ∧ σ[0]? = some (some (.ref a)) ∧ Src H a l ms z b ∧ 0 ≤ b ∧ b < 900000 ∧ ∀ H' ms' way, But a l H H' → Src H' a l ms' z (b + 1) → 0 ≤ way → way < 6 → (12 ≤ n → 3 ≤ way) → Q (.int way) H'
def spChangeL : Sp := fun vs H Q _ => ∃ (N : Nat) (s l w : Addr) (ms : List Int) (z b : Int) (ps rls : List Addr) (ts : List Ti) (rss : List (List Row)), vs = [.ref s, .ref w] ∧ Src H s l ms z b ∧ 0 ≤ b ∧ b < 600000 ∧ Wl H w ps rls ts rss ∧ Wn ts ∧ (∀ c ∈ w :: (ps ++ rls), Off s l c) ∧ RkFit N ts rss ∧ N ≤ 90 ∧
  ∀ (H' : Hp) (ms' : List Int) (b' : Int) (p : Addr) (kd : Str) (i : Nat) (ti : Ti) (us : List Row), But s l H H' → Src H' s l ms' z b' → b ≤ b' → b' ≤ b + 30 → DeedAt H' p kd ti.nm us → H p = none → ts[i]? = some ti → (∀ r ∈ us, Rk ti r) → lenV kd = .int ((us.length + 2 : Nat) : Int) → (kd = insS → countOf rss < 12) → Q (.ref p) H'
section
variable {P : Program} {w : World} {K : PySem.W.Frag} {mg : Str → Option Value} {base : Heap} {fD fP fN : Addr}
theorem scChangeL : FnScope ["_law_source_here", "_law_world_here", "_law_some", "_law_rows", "_law_many", "_law_pair", "_law_way"] ["_law_source_here", "_law_world_here"] (defScope sChangeL) := ⟨rfl, rfl, rfl, by decide +kernel, rfl, by decide +kernel, by decide +kernel⟩
theorem ok_changel {f : Addr} {fd fdD fdP fdN : FuncData} (F : Fun K "_law_change" "_law_change" sChangeL f fd) (T : TxtL K mg fD fP) (sum : mg "sum" = none) (GD : FnOk P w K mg base CX0 1 fD fdD ["_law_source_here", "_law_many"] spDraw) (bD : Binds K fdD ["_law_source_here", "_law_many"] [])
    (GP : FnOk P w K mg base CX0 2 fP fdP ["_law_source_here", "_law_items"] (spPick K)) (bP : Binds K fdP ["_law_source_here", "_law_items"] [])
    (cN : Calls K mg "_law_near" fN) (GN : FnOk P w K mg base CX0 4 fN fdN ["_law_source_here", "_law_some", "_law_rows"] spNear) (bN : Binds K fdN ["_law_source_here", "_law_some", "_law_rows"] []) :
    FnOk P w K mg base CX0 5 f fd ["_law_source_here", "_law_world_here"] spChangeL := by
  refine F.ok scChangeL (fun vs H Q E h => ?_) (fun cdv A outer s H vs Q E hr h => ?_)
  · obtain ⟨N, s, l, w, ms, z, b, ps, rls, ts, rss, rfl, _⟩ := h
    rfl
  · obtain ⟨N, a, l, w, ms, z, b, ps, rls, ts, rss, rfl, hs, b0, b1, wl, wn, off, fit, hN, k⟩ := h
    have hr1 : Room 1 _ := hr.mono (by decide)
    have hr2 : Room 2 _ := hr.mono (by decide)
    have big : sizeLine > 1000 := by decide
    refine ⟨_, pss_cons (ps_asg (pe_call GP hr2 rfl T.gP T.kP bP .nil pass0 (pa_cons (pv 0) (pa_cons (pv 1) pa_nil))) (pg_lst rfl (pgs_cons (pg_name (i := 2) scChangeL.nd rfl (Or.inl rfl)) (pgs_cons (pg_name (i := 3) scChangeL.nd rfl (Or.inl rfl)) pgs_nil))))
      (pss_cons (ps_set (i := 4) scChangeL.nd rfl (Or.inl rfl) (pe_callB (cr_sum rfl) (by rfl) sum (by decide +kernel) (pa_cons (pe_lc (own := [("_law_pair", 5)]) (g := gName 5) (tt := tYes) (te := tCB (rLenS K) (tCons (tOp (rIxL K) (tVar 5) (tC (.int 1))) tNil)) rfl scChangeL.nd (pi_list (pv 1))
            (blkOk_by (N := ["_law_source_here", "_law_world_here", "_law_some", "_law_rows", "_law_many", "_law_pair", "_law_way"]) (sc := defScope sChangeL) (by decide +kernel)) (fun _ _ _ _ _ => pg_name (i := 5) scChangeL.nd rfl (Or.inl rfl)) (fun _ _ _ _ _ => pts_nil)
            (fun _ _ _ _ _ => by exact (pe_callB call_len_seq (by rfl) T.len (by decide +kernel) (pa_cons (pe_ix ix_list (pv 5) pe_int (fun _ _ => rfl)) pa_nil)))) pa_nil)))
      (pss_cons (ps_set (i := 6) scChangeL.nd rfl (Or.inl rfl) (PE.wk (t := tWay) (pe_ifExp (pt_cmpR op_lt (pv 4) pe_int (nomark _)) (pe_call GD hr1 rfl T.gD T.kD bD .nil pass0 (pa_cons (pv 0) (pa_cons pe_int pa_nil)))
            (pe_op op_add pe_int (pe_call GD hr1 rfl T.gD T.kD bD .nil pass0 (pa_cons (pv 0) (pa_cons pe_int pa_nil))))) (fun σ H Q h => ?_)))
      (pss_cons (ps_if (pt_cmpR op_lt (pv 6) pe_int (nomark _)) (pss_one (ps_ret (pe_tupF (pa_cons pe_str (pa_cons (pe_ix ix_tup (pv 2) pe_int (fun _ _ => rfl)) (pa_cons (pe_call GN hr rfl cN.g cN.k bN .nil pass0 (pa_cons (pv 0) (pa_cons (pv 2) (pa_cons (pv 3) pa_nil)))) pa_nil)))))) pss_nil)
      (pss_cons (ps_if (pt_cmpR op_eq (pv 6) pe_int (nomark _)) (pss_one (ps_ret (pe_tupF (pa_cons pe_str (pa_cons (pe_ix ix_tup (pv 2) pe_int (fun _ _ => rfl)) (pa_cons (pe_call GN hr rfl cN.g cN.k bN .nil pass0 (pa_cons (pv 0) (pa_cons (pv 2) (pa_cons (pv 3) pa_nil)))) pa_nil)))))) pss_nil)
      (pss_one (ps_ret (pe_tupF (pa_cons pe_str (pa_cons (pe_ix ix_tup (pv 2) pe_int (fun _ _ => rfl)) (pa_cons (pe_call GN hr rfl cN.g cN.k bN .nil pass0 (pa_cons (pv 0) (pa_cons (pv 2) (pa_cons (pv 3) pa_nil))))
        (pa_cons (pe_call GN hr rfl cN.g cN.k bN .nil pass0 (pa_cons (pv 0) (pa_cons (pv 2) (pa_cons (pv 3) pa_nil)))) pa_nil))))))))))), ?_⟩
    · obtain ⟨n, a, l, ms, z, b, e4, e0, hs, b0, b1, k⟩ := h
      refine ⟨_, e4, _, _, rfl, rfl, _, rfl, ?_⟩
      show if decide (n < 12) = true then _ else _
      by_cases c : decide (n < 12) = true
      · rw [if_pos c]
        exact ⟨_, e0, a, l, ms, z, b, 6, rfl, hs, by decide, by decide, b0, by omega, fun H' ms' r k1 h1 r0 r1 => k H' ms' r k1 h1 r0 r1 (fun z => absurd (of_decide_eq_true c) (by omega))⟩
      · rw [if_neg c]
        exact ⟨_, e0, a, l, ms, z, b, 3, rfl, hs, by decide, by decide, b0, by omega, fun H' ms' r k1 h1 r0 r1 => ⟨_, _, rfl, rfl, k H' ms' (3 + r) k1 h1 (by omega) (by omega) (fun _ => by omega)⟩⟩
    have offw := off w List.mem_cons_self
    have lts : ps.length ≤ 3 := by
      rw [wl.lp]
      exact wn.few
    have lt1 : 0 < ps.length := by
      rw [wl.lp]
      exact wn.one
    refine ⟨_, rfl, _, rfl, a, l, .ref w, ms, z, b, rfl, hs, b0, by omega, .inl ⟨w, ps.map V.ref, rfl, fun H' kk => SqL.of (kk _ _ offw.1 offw.2 wl.hw), by rw [List.length_map]; exact lt1, by rw [List.length_map]; omega, fun H1 ms1 v k1 hs1 hv => ?_⟩⟩
    obtain ⟨p0, hp0, rfl⟩ := List.mem_map.mp hv
    obtain ⟨i, hi⟩ := List.mem_iff_getElem?.mp hp0
    have wl1 := wl.keep (fun c m o e => k1 _ _ (off c m).1 (off c m).2 e) (k1.fz hs)
    have ilt : i < ts.length := by
      rw [← wl.lp]
      exact (List.getElem?_eq_some_iff.mp hi).1
    obtain ⟨p0', rl, ti, rs, ep, erl, et, er, sm, vs, hp, ha, hrl, hrs⟩ := wl1.at ilt
    rw [hi] at ep
    obtain rfl := Option.some.inj ep
    refine ⟨p0, [.ref sm, .ref rl], rfl, SqL.of hp, rfl, _, _, rfl, _, _, rfl, rfl, ?_⟩
    -- how many rows there are
    refine ⟨_, rfl, w, rfl, ⟨_, SqL.of wl1.hw⟩, fun D hD => ?_⟩
    refine lc_list (K := K) (a := w) (xs := ps.map V.ref) (fun j H' => Same H1 H' ∧ ∃ ns : List Int, H' D = some (.lst (ns.map V.int)) ∧ ns.length = j ∧ ns.sum = ((countOf (rss.take j) : Nat) : Int)) ⟨same_upd hD, [], upd_same, rfl, rfl⟩ (fun j H' _ z => SqL.of (z.1 _ _ wl1.hw)) ?_ ?_
    · rintro j y H2 hj ⟨s2, ns, e2, ln, sn⟩
      have jlt : j < ts.length := by
        have := (List.getElem?_eq_some_iff.mp hj).1
        rw [List.length_map, wl.lp] at this
        exact this
      obtain ⟨pj, rlj, tj, rsj, f1, _, f3, f4, smj, vsj, h0, _, h2, hrj⟩ := wl1.at jlt
      have lvj : vsj.length = rsj.length := hrj.length
      rw [List.getElem?_map, f1] at hj
      obtain rfl := Option.some.inj hj
      refine ⟨rfl, ?_⟩
      dsimp only [tYes]
      rw [if_pos rfl]
      refine ⟨_, rfl, pj, _, 1, .ref rlj, rfl, rfl, SqL.of (s2 _ _ h0), rfl, rlj, vsj, rfl, .inl (SqL.of (s2 _ _ h2)), _, e2, ?_, fun c u e => ?_, ns ++ [(vsj.length : Int)], ?_, by rw [List.length_append, ln]; rfl, by rw [List.sum_append, sn, count_snoc f4, lvj]; simp⟩
      · rw [List.length_map]
        have := wn.few
        omega
      · rw [upd_ne (ne_of_none e hD)]
        exact s2 c u e
      · rw [upd_same, List.map_append]
        rfl
    rintro H2 ⟨s2, ns, e2, _, sn⟩
    rw [List.length_map, wl.lp, ← wl.ls, List.take_length] at sn
    refine ⟨D, ns, rfl, SqL.of e2, ?_⟩
    have hs2 := hs1.but s2
    refine ⟨ns.sum, a, l, ms1, z, b + 1, rfl, rfl, hs2, by omega, by omega, fun H3 ms3 way k3 hs3 w0 w6 w12 => ?_⟩
    rw [sn] at w12
    have k13 := (But.of_same (s := a) (l := l) s2).trans k3
    have k03 := k1.trans k13
    have tok := wn.ok ti (List.mem_of_getElem? et)
    have ha3 := ha.fz (k13.fz hs1)
    have orl := off rl (List.mem_cons_of_mem _ (List.mem_append_right _ (List.mem_of_getElem? erl)))
    have hrl3 := k13 _ _ orl.1 orl.2 hrl
    have hrs3 := RowsAt.keep (k13.fz hs1) hrs
    obtain ⟨fr, fl⟩ := fit i ti rs et er
    have near : ∀ {H4 : Hp} {ms4 : List Int} {b4 : Int} {Q' : VK}, But a l H3 H4 → Src H4 a l ms4 z b4 → 0 ≤ b4 → b4 < 700000 →
        (∀ (H' : Hp) (ms' : List Int) (b' : Int) (v : V) (r : Row), But a l H4 H' → Src H' a l ms' z b' → b4 ≤ b' → b' ≤ b4 + 10 → RwAt H' v r → Rk ti r → Q' v H') → spNear [.ref a, .ref sm, .ref rl] H4 Q' E0 :=
      fun {H4 ms4 b4 Q'} k4 hs4 c0 c1 q => ⟨a, l, sm, rl, ms4, z, b4, ti, vs, rs, rfl, hs4, c0, c1, ha3.fz (k4.fz hs3), tok.g, k4 _ _ orl.1 orl.2 hrl3, orl, RowsAt.keep (k4.fz hs3) hrs3, fr, by omega, q⟩
    have nm : ∀ {H4 : Hp}, But a l H3 H4 → ∃ c1 c2 c3 : Addr, SqT K H4 sm [.str ti.nm, .ref c1, .ref c2, .ref c3] := fun {H4} k4 => by
      obtain ⟨o, c1, c2, c3, h0, _⟩ := ha3.fz (k4.fz hs3)
      exact ⟨c1, c2, c3, .inl (.inr ⟨o, h0⟩)⟩
    obtain ⟨c1, c2, c3, hsm⟩ := nm (fun _ _ _ _ e => e)
    have one : ∀ (kd : Str), lenV kd = .int 3 → (kd = insS → countOf rss < 12) → ∀ (H4 : Hp) (ms4 : List Int) (b4 : Int) (v : V) (r : Row), But a l H3 H4 → Src H4 a l ms4 z b4 → b + 1 + 1 ≤ b4 → b4 ≤ b + 1 + 1 + 10 → RwAt H4 v r → Rk ti r →
        ([V.str kd, V.str ti.nm, v] : List V).length ≤ sizeLine ∧ New H4 [V.str kd, .str ti.nm, v] Q := fun kd hk hc H4 ms4 b4 v r k4 hs4 d1 d2 hv rk => ⟨by show 3 ≤ sizeLine; omega, fun q o hq ho => by
          have s5 := same_upd (o := .frz o (.tup [V.str kd, .str ti.nm, v])) hq
          have k04 := k03.trans k4
          exact k _ ms4 b4 q kd i ti [r] (k04.trans (.of_same s5)) (hs4.but s5) (by omega) (by omega) ⟨o, [v], upd_same, ho, .cons (hv.keep (Fz.of_same s5)) .nil⟩ (k04.back hs4 hq) et (fun x m => by rw [List.mem_singleton.mp m]; exact rk) hk hc⟩
    refine ⟨_, rfl, _, _, rfl, rfl, _, rfl, ?_⟩
    refine ite2 (fun e => ?_) (fun e => ?_)
    · exact ⟨_, rfl, sm, _, 0, .str ti.nm, rfl, rfl, hsm, rfl, _, rfl, _, rfl, _, rfl, near (fun _ _ _ _ e => e) hs3 (by omega) (by omega) (one insS (by decide +kernel) fun _ => by
        have := of_decide_eq_true e
        omega)⟩
    refine ⟨_, rfl, rfl, _, rfl, ?_⟩
    refine ite2 (fun e => ?_) (fun e => ?_)
    · exact ⟨_, rfl, sm, _, 0, .str ti.nm, rfl, rfl, hsm, rfl, _, rfl, _, rfl, _, rfl, near (fun _ _ _ _ e => e) hs3 (by omega) (by omega) (one delS (by decide +kernel) fun z => absurd z del_ins)⟩
    refine ⟨_, rfl, sm, _, 0, .str ti.nm, rfl, rfl, hsm, rfl, _, rfl, _, rfl, _, rfl, near (fun _ _ _ _ e => e) hs3 (by omega) (by omega) fun H4 ms4 b4 v r k4 hs4 d1 d2 hv rk => ?_⟩
    refine ⟨_, rfl, _, rfl, _, rfl, near k4 hs4 (by omega) (by omega) fun H5 ms5 b5 v' r' k5 hs5 d3 d4 hv' rk' => ⟨by show 4 ≤ sizeLine; omega, fun q o hq ho => ?_⟩⟩
    have s6 := same_upd (o := .frz o (.tup [V.str repS, .str ti.nm, v, v'])) hq
    have k05 := (k03.trans k4).trans k5
    refine k _ ms5 b5 q repS i ti [r, r'] (k05.trans (.of_same s6)) (hs5.but s6) (by omega) (by omega) ⟨o, [v, v'], upd_same, ho, .cons ((hv.keep (k5.fz hs4)).keep (Fz.of_same s6)) (.cons (hv'.keep (Fz.of_same s6)) .nil)⟩ (k05.back hs5 hq) et (fun x m => ?_) lenV_rep fun z => absurd z rep_ins
    rcases List.mem_cons.mp m with m | m
    · rw [m]; exact rk
    · rw [List.mem_singleton.mp m]; exact rk'
end
end Vm
/-! the law: following a change; what the rows are -/
namespace Vm
open PySem L2
abbrev sFollow : Stmt := top 55
abbrev sTold : Stmt := top 56
/-- the law's rows behind a change -/
def followR (kd : Str) (us rs : List Row) : List Row :=
  if kd = insS then rs ++ us else if kd = delS then rs.erase (us.getD 0 []) else rs.erase (us.getD 0 []) ++ us.drop 1
def BR (rls : List Addr) (H H' : Hp) : Prop := ∀ b o, b ∉ rls → H b = some o → H' b = some o
theorem BR.trans {rls : List Addr} {H H1 H2 : Hp} (a : BR rls H H1) (b : BR rls H1 H2) : BR rls H H2 := fun c o n e => b c o n (a c o n e)
theorem BR.of_same {rls : List Addr} {H H' : Hp} (k : Same H H') : BR rls H H' := fun c o _ e => k c o e
/-- other rows of one table -/
theorem Wl.put {H : Hp} {w : Addr} {ps rls : List Addr} {ts : List Ti} {rss : List (List Row)} {i : Nat} {rl : Addr} {vs' : List V} {rs' : List Row} (h : Wl H w ps rls ts rss) (e : rls[i]? = some rl) (r : RowsAt H vs' rs') :
    Wl (upd H rl (.lst vs')) w ps rls ts (rss.set i rs') ∧ Fz H (upd H rl (.lst vs')) ∧ BR rls H (upd H rl (.lst vs')) := by
  have mem := List.mem_of_getElem? e
  obtain ⟨vs, hrl⟩ := h.there rl (List.mem_cons_of_mem _ (List.mem_append_right _ mem))
  have fz : Fz H (upd H rl (.lst vs')) := fun b o xs q => by
    rw [upd_ne fun z => by rw [z, hrl] at q; cases q]
    exact q
  have nd := h.nd
  rw [List.nodup_cons, List.nodup_append] at nd
  obtain ⟨n1, n2, n3, n4⟩ := nd
  have ilt : i < rls.length := (List.getElem?_eq_some_iff.mp e).1
  refine ⟨⟨?_, h.lp, h.lr, by rw [List.length_set]; exact h.ls, ?_, h.nd⟩, fz, fun b o n q => by rw [upd_ne fun z => n (by rw [z]; exact mem)]; exact q⟩
  · rw [upd_ne fun z => n1 (by rw [z]; exact List.mem_append_right _ mem)]
    exact h.hw
  · intro j p rlj t rs e1 e2 e3 e4
    have np : p ≠ rl := n4 p (List.mem_of_getElem? e1) rl mem
    rw [List.getElem?_set] at e4
    by_cases q : i = j
    · subst q
      rw [if_pos rfl, if_pos (by rw [h.ls, ← h.lr]; exact ilt)] at e4
      obtain rfl := Option.some.inj e4
      rw [e] at e2
      obtain rfl := Option.some.inj e2
      have lt : i < ts.length := (List.getElem?_eq_some_iff.mp e3).1
      obtain ⟨p', rl', t', rs0, f1, f2, f3, f4, sm, vs0, a1, a2, a3, a4⟩ := h.at lt
      rw [e1] at f1
      obtain rfl := Option.some.inj f1
      rw [e3] at f3
      obtain rfl := Option.some.inj f3
      rw [e] at f2
      obtain rfl := Option.some.inj f2
      exact ⟨sm, vs', by rw [upd_ne np]; exact a1, a2.fz fz, upd_same, RowsAt.keep fz r⟩
    · rw [if_neg q] at e4
      have nj : rlj ≠ rl := fun z => q (by
        rw [z] at e2
        have i1 := n3.idxOf_getElem i ilt
        have jl : j < rls.length := (List.getElem?_eq_some_iff.mp e2).1
        have i2 := n3.idxOf_getElem j jl
        rw [(List.getElem?_eq_some_iff.mp e).2] at i1
        rw [(List.getElem?_eq_some_iff.mp e2).2] at i2
        omega)
      exact (h.pr j p rlj t rs e1 e2 e3 e4).keep (fun o z => by rw [upd_ne np]; exact z) (fun o z => by rw [upd_ne nj]; exact z) fz
def spFollow (K : PySem.W.Frag) : Sp := fun vs H Q _ => ∃ (w p : Addr) (ps rls : List Addr) (ts : List Ti) (rss : List (List Row)) (kd : Str) (i : Nat) (ti : Ti) (us rs : List Row), vs = [.ref w, .ref p] ∧ Wl H w ps rls ts rss ∧ (ts.map Ti.nm).Nodup ∧
  DeedAt H p kd ti.nm us ∧ ts[i]? = some ti ∧ rss[i]? = some rs ∧ ti.ok ∧ (∀ r ∈ us, Row.ok ti r) ∧ (∀ r ∈ rs, Row.ok ti r) ∧ rs.length ≤ 100 ∧ ts.length ≤ 3 ∧ lenV kd = .int ((us.length + 2 : Nat) : Int) ∧
  ∀ H', BR rls H H' → Fz H H' → Wl H' w ps rls ts (if possR ti kd us rs = true then rss.set i (followR kd us rs) else rss) → Q (.bl (possR ti kd us rs)) H'
def spTold (K : PySem.W.Frag) : Sp := fun vs H Q _ => ∃ (w : Addr) (ps rls : List Addr) (ts : List Ti) (rss : List (List Row)), vs = [.ref w] ∧ Wl H w ps rls ts rss ∧ (∀ t ∈ ts, t.ok) ∧ (∀ (i : Nat) t rs, ts[i]? = some t → rss[i]? = some rs → ∀ r ∈ rs, Row.ok t r) ∧ ts.length ≤ 3 ∧
  ∀ H' D qs, Same H H' → H D = none → H' D = some (.lst (qs.map V.ref)) → RTups H' qs (rss.map sortR) → Q (.ref D) H'
section
variable {P : Program} {w : World} {K : PySem.W.Frag} {mg : Str → Option Value} {base : Heap} {fPo : Addr}
theorem scFollow : FnScope ["_law_world_here", "_law_change_here", "_law_pair"] ["_law_world_here", "_law_change_here"] (defScope sFollow) := ⟨rfl, rfl, rfl, by decide +kernel, rfl, by decide +kernel, by decide +kernel⟩
theorem scTold : FnScope ["_law_world_here", "_law_some", "_law_rows"] ["_law_world_here"] (defScope sTold) := ⟨rfl, rfl, rfl, by decide +kernel, rfl, by decide +kernel, by decide +kernel⟩
theorem ok_follow {f : Addr} {fd fdP : FuncData} (F : Fun K "_law_follow" "_law_follow" sFollow f fd) (cP : Calls K mg "_law_is_possible" fPo) (GP : FnOk P w K mg base CX0 3 fPo fdP ["_law_world_here", "_law_change_here"] (spPossL K)) (bP : Binds K fdP ["_law_world_here", "_law_change_here"] []) :
    FnOk P w K mg base CX0 4 f fd ["_law_world_here", "_law_change_here"] (spFollow K) := by
  refine F.ok scFollow (fun vs H Q E h => ?_) (fun cdv A outer s H vs Q E hr h => ?_)
  · obtain ⟨w, p, ps, rls, ts, rss, kd, i, ti, us, rs, rfl, _⟩ := h
    rfl
  · obtain ⟨w, p, ps, rls, ts, rss, kd, i, ti, us, rs, rfl, wl, nd, deed, et, er, g, o1, o2, few, few3, hl, k⟩ := h
    have hu : (A.deeper (PyProof.Rows.envOfC "_law_follow" (defScope sFollow) s.heap.objs.size f cdv)).units + 8 < cLine := by
      have := hr.units
      omega
    have big : sizeLine > 1000 := by decide
    refine ⟨_, pss_cons (ps_if (pt_not (pt_val (pe_call GP hr rfl cP.g cP.k bP .nil pass0 (pa_cons (pv 0) (pa_cons (pv 1) pa_nil))))) (pss_one (ps_ret pe_bl)) pss_nil)
      (pss_cons (ps_for PassesOwn.never rfl (pi_list (pv 0)) (pg_name (i := 2) scFollow.nd rfl (Or.inl rfl))
        (pss_one (ps_if (pt_cmpR op_eq (pe_ix ix_tup (pe_ix ix_list (pv 2) pe_int (fun _ _ => rfl)) pe_int (fun _ _ => rfl)) (pe_ix ix_tup (pv 1) pe_int (fun _ _ => rfl)) (nomark _))
          (pss_cons (ps_if (pt_cmpR op_ne (pe_ix ix_tup (pv 1) pe_int (fun _ _ => rfl)) pe_str (nomark _))
              (pss_one (ps_expr (pe_bm PySem.F.plainAttrs_list PySem.F.slot_list_remove PySem.F.type_list_remove (mt_removeR hu) (pe_ix ix_list (pv 2) pe_int (fun _ _ => rfl)) (pa_cons (pe_ix ix_tup (pv 1) pe_int (fun _ _ => rfl)) pa_nil)))) pss_nil)
          (pss_one (ps_if (pt_cmpR op_ne (pe_ix ix_tup (pv 1) pe_int (fun _ _ => rfl)) pe_str (nomark _))
              (pss_one (ps_expr (pe_bm PySem.F.plainAttrs_list PySem.F.slot_list_append PySem.F.type_list_append mt_append (pe_ix ix_list (pv 2) pe_int (fun _ _ => rfl)) (pa_cons (pe_ix ix_tup (pv 1) (pe_un un_neg pe_int) (fun _ _ => rfl)) pa_nil)))) pss_nil)))
          pss_nil)))
      (pss_one (ps_ret pe_bl))), ?_⟩
    obtain ⟨od, xs, hp, hod, hxs⟩ := deed
    refine ⟨_, rfl, _, rfl, w, p, ps, rls, ts, rss, kd, i, ti, xs, us, rs, rfl, wl, nd, .inl (.inr ⟨od, hp⟩), hxs, et, er, g, o1, o2, few, few3, hl, fun H1 s1 => ⟨_, rfl, ?_⟩⟩
    have wl1 := wl.same s1
    cases po : possR ti kd us rs with
    | false =>
      rw [po, if_neg Bool.false_ne_true] at k
      exact iteT (k H1 (.of_same s1) (Fz.of_same s1) wl1)
    | true =>
      refine iteF ?_
      rw [po, if_pos rfl] at k
      have ilt : i < ts.length := (List.getElem?_eq_some_iff.mp et).1
      have hp1 := s1 _ _ hp
      have hxs1 := RowsAt.keep (Fz.of_same s1) hxs
      have ls := wl.ls
      refine ⟨_, rfl, w, rfl, ⟨_, SqL.of wl1.hw⟩, for_list (K := K) (a := w) (xs := ps.map V.ref) (fun j σ H' => ∃ v : Option V, σ = [some (.ref w), some (.ref p), v] ∧ BR rls H1 H' ∧ Fz H1 H' ∧ Wl H' w ps rls ts (if i < j then rss.set i (followR kd us rs) else rss))
        ⟨none, rfl, fun _ _ _ e => e, Fz.refl _, by rw [if_neg (Nat.not_lt_zero _)]; exact wl1⟩ (fun j σ H' _ ⟨_, _, _, _, z⟩ => SqL.of z.hw) ?_ ?_⟩
      · rintro j y σ H2 hj ⟨v, rfl, b2, f2, wl2⟩
        have jlt : j < ts.length := by
          have := (List.getElem?_eq_some_iff.mp hj).1
          rw [List.length_map, wl.lp] at this
          exact this
        obtain ⟨pj, rlj, tj, rsj, g1, g2, g3, g4, smj, vsj, h0, ⟨oj, b1, b2', b3, hsj, hodj, _⟩, h3, h4⟩ := wl2.at jlt
        rw [List.getElem?_map, g1] at hj
        obtain rfl := Option.some.inj hj
        have hp2 : SqT K H2 p (.str kd :: .str ti.nm :: xs) := .inl (.inr ⟨od, f2 _ _ _ hp1⟩)
        refine ⟨_, rfl, pj, _, 0, .ref smj, rfl, rfl, SqL.of h0, rfl, smj, _, 0, .str tj.nm, rfl, rfl, .inl (.inr ⟨oj, hsj⟩), rfl, _, rfl, p, _, 1, .str ti.nm, rfl, rfl, hp2, at1, rfl, _, rfl, ?_⟩
        have ed : decide (V.str tj.nm = V.str ti.nm) = decide (j = i) := decide_eq_decide.mpr ⟨fun e => nm_same nd g3 et (V.str.inj e), fun e => by
          rw [e, et] at g3
          obtain rfl := Option.some.inj g3
          rfl⟩
        rw [ed]
        by_cases e : j = i
        · rw [decide_eq_true e]
          subst e
          rw [et] at g3
          obtain rfl := Option.some.inj g3
          rw [if_neg (Nat.lt_irrefl _)] at wl2 g4
          rw [er] at g4
          obtain rfl := Option.some.inj g4
          refine iteT ?_
          have hx2 := RowsAt.keep f2 hxs1
          have fin : ∀ (vs' : List V) (rs' : List Row), RowsAt H2 vs' rs' → rs' = followR kd us rs → ∃ v : Option V, ([some (.ref w), some (.ref p), some (.ref pj)] : List (Option V)) = [some (.ref w), some (.ref p), v] ∧ BR rls H1 (upd H2 rlj (.lst vs')) ∧ Fz H1 (upd H2 rlj (.lst vs')) ∧ Wl (upd H2 rlj (.lst vs')) w ps rls ts (if j < j + 1 then rss.set j (followR kd us rs) else rss) := fun vs' rs' q qe => by
            obtain ⟨a1, a2, a3⟩ := wl2.put g2 q
            refine ⟨_, rfl, b2.trans a3, f2.trans a2, ?_⟩
            rw [if_pos (Nat.lt_succ_self _), ← qe]
            exact a1
          rcases lenV_cases hl with ⟨e, ln⟩ | ⟨e, ln⟩ | ⟨e, ln⟩ <;> subst e
          · obtain ⟨r, rfl⟩ : ∃ r, us = [r] := List.length_eq_one_iff.mp ln
            obtain ⟨x, rfl⟩ : ∃ x, xs = [x] := List.length_eq_one_iff.mp (by rw [hxs.length]; rfl)
            rw [poss_del] at po
            have mem := of_decide_eq_true po
            cases hx2 with
            | cons hx _ =>
              refine ⟨_, rfl, p, _, 0, .str delS, rfl, rfl, hp2, at0, rfl, _, rfl, ?_⟩
              show if (!decide (V.str delS = V.str insS)) = true then _ else _
              rw [decide_eq_false fun z => del_ins (V.str.inj z)]
              refine iteT ⟨_, rfl, pj, _, 1, .ref rlj, rfl, rfl, SqL.of h0, rfl, .inl ⟨rfl, _, SqL.of h3⟩, _, rfl, p, _, 2, x, rfl, rfl, hp2, rfl, rlj, x, r, vsj, rs, rfl, rfl, h3, hx, h4, mem, fun vs' q lq => ?_⟩
              obtain ⟨a1, a2, a3⟩ := wl2.put g2 q
              refine ⟨_, rfl, p, _, 0, .str delS, rfl, rfl, .inl (.inr ⟨od, a2 _ _ _ (f2 _ _ _ hp1)⟩), at0, rfl, _, rfl, ?_⟩
              show if (!decide (V.str delS = V.str delS)) = true then _ else _
              rw [decide_eq_true rfl]
              refine iteF (fin vs' _ q ?_)
              unfold followR
              rw [if_neg del_ins, if_pos rfl]
              rfl
          · obtain ⟨r, rfl⟩ : ∃ r, us = [r] := List.length_eq_one_iff.mp ln
            obtain ⟨x, rfl⟩ : ∃ x, xs = [x] := List.length_eq_one_iff.mp (by rw [hxs.length]; rfl)
            cases hx2 with
            | cons hx _ =>
              refine ⟨_, rfl, p, _, 0, .str insS, rfl, rfl, hp2, at0, rfl, _, rfl, ?_⟩
              show if (!decide (V.str insS = V.str insS)) = true then _ else _
              rw [decide_eq_true rfl]
              refine iteF ⟨_, rfl, p, _, 0, .str insS, rfl, rfl, hp2, at0, rfl, _, rfl, ?_⟩
              show if (!decide (V.str insS = V.str delS)) = true then _ else _
              rw [decide_eq_false fun z => del_ins (V.str.inj z).symm]
              refine iteT ⟨_, rfl, pj, _, 1, .ref rlj, rfl, rfl, SqL.of h0, rfl, .inl ⟨rfl, _, SqL.of h3⟩, _, rfl, _, rfl, p, _, -1, x, rfl, rfl, hp2, rfl, rlj, vsj, x, rfl, rfl, h3, by rw [h4.length]; omega, ?_⟩
              refine fin _ (rs ++ [r]) (each_append h4 (.cons hx .nil)) ?_
              unfold followR
              rw [if_pos rfl]
          · obtain ⟨r, o, rfl⟩ := two_of ln
            obtain ⟨x, y, rfl⟩ := two_of (xs := xs) (by rw [hxs.length]; rfl)
            rw [poss_rep, Bool.and_eq_true, Bool.and_eq_true] at po
            have mem := of_decide_eq_true po.1.1
            cases hx2 with
            | cons hx t2 =>
              cases t2 with
              | cons hy _ =>
                refine ⟨_, rfl, p, _, 0, .str repS, rfl, rfl, hp2, at0, rfl, _, rfl, ?_⟩
                show if (!decide (V.str repS = V.str insS)) = true then _ else _
                rw [decide_eq_false fun z => rep_ins (V.str.inj z)]
                refine iteT ⟨_, rfl, pj, _, 1, .ref rlj, rfl, rfl, SqL.of h0, rfl, .inl ⟨rfl, _, SqL.of h3⟩, _, rfl, p, _, 2, x, rfl, rfl, hp2, rfl, rlj, x, r, vsj, rs, rfl, rfl, h3, hx, h4, mem, fun vs' q lq => ?_⟩
                obtain ⟨a1, a2, a3⟩ := wl2.put g2 q
                obtain ⟨_, rl3, t3, rs3, c1, c2, c3, c4, sm3, vs3, d0, _, d3, d4⟩ := a1.at jlt
                rw [g1] at c1
                obtain rfl := Option.some.inj c1
                have hp3 : SqT K (upd H2 rlj (.lst vs')) p [.str repS, .str ti.nm, x, y] := .inl (.inr ⟨od, a2 _ _ _ (f2 _ _ _ hp1)⟩)
                rw [g2] at c2
                obtain rfl := Option.some.inj c2
                refine ⟨_, rfl, p, _, 0, .str repS, rfl, rfl, hp3, at0, rfl, _, rfl, ?_⟩
                show if (!decide (V.str repS = V.str delS)) = true then _ else _
                rw [decide_eq_false fun z => rep_del (V.str.inj z)]
                refine iteT ⟨_, rfl, pj, _, 1, .ref rlj, rfl, rfl, SqL.of d0, rfl, .inl ⟨rfl, _, SqL.of d3⟩, _, rfl, _, rfl, p, _, -1, y, rfl, rfl, hp3, rfl, rlj, vs', y, rfl, rfl, upd_same, by have := h4.length; omega, ?_⟩
                have u2 : upd (upd H2 rlj (.lst vs')) rlj (.lst (vs' ++ [y])) = upd H2 rlj (.lst (vs' ++ [y])) := by
                  funext b
                  by_cases z : b = rlj
                  · rw [z, upd_same, upd_same]
                  · rw [upd_ne z, upd_ne z, upd_ne z]
                rw [u2]
                refine fin _ (rs.erase r ++ [o]) (each_append q (.cons hy .nil)) ?_
                unfold followR
                rw [if_neg rep_ins, if_neg rep_del]
                rfl
        · rw [decide_eq_false e]
          refine iteF ⟨_, rfl, b2, f2, ?_⟩
          by_cases q : i < j
          · rw [if_pos q] at wl2
            rw [if_pos (by omega)]
            exact wl2
          · rw [if_neg q] at wl2
            rw [if_neg (by omega)]
            exact wl2
      · rintro σ H2 ⟨v, rfl, b2, f2, wl2⟩
        rw [List.length_map, wl.lp, if_pos ilt] at wl2
        exact k H2 ((BR.of_same s1).trans b2) ((Fz.of_same s1).trans f2) wl2
theorem ok_told {f : Addr} {fd : FuncData} (F : Fun K "_law_told" "_law_told" sTold f fd) (tuple : mg "tuple" = none) (sorted : mg "sorted" = none) : FnOk P w K mg base CX0 1 f fd ["_law_world_here"] (spTold K) := by
  refine F.ok scTold (fun vs H Q E h => ?_) (fun cdv A outer s H vs Q E hr h => ?_)
  · obtain ⟨w, ps, rls, ts, rss, rfl, _⟩ := h
    rfl
  · obtain ⟨w, ps, rls, ts, rss, rfl, wl, okt, okr, few, k⟩ := h
    have hu : (A.deeper (PyProof.Rows.envOfC "_law_told" (defScope sTold) s.heap.objs.size f cdv)).units + 8 < cLine := by
      have := hr.units
      omega
    have hu0 : ∀ {X : Cx}, X.A = (A.deeper (PyProof.Rows.envOfC "_law_told" (defScope sTold) s.heap.objs.size f cdv)) → X.A.units + 8 < cLine := fun e => by rw [e]; exact hu
    have big : sizeLine > 1000 := by decide
    refine ⟨_, pss_one (ps_ret (pe_lc (own := [("_law_some", 1), ("_law_rows", 2)]) (g := gLst K 2 (gCons (gName 1) (gCons (gName 2) gNil))) (tt := tYes)
        (te := tCB (fun xs H Q => ∃ p ys, xs = [.ref p] ∧ SqL K H p ys ∧ ∀ q ob, H q = none → ob.dict = none → Q (.ref q) (upd H q (.frz ob (.tup ys)))) (tCons (tCB (rSortR K) (tCons (tVar 2) tNil)) tNil)) rfl scTold.nd (pi_list (pv 0))
          (blkOk_by (N := ["_law_world_here", "_law_some", "_law_rows"]) (sc := defScope sTold) (by decide +kernel))
          (fun _ _ _ _ _ => by exact (pg_lst rfl (by exact (pgs_cons (pg_name (i := 1) scTold.nd rfl (Or.inl rfl)) (by exact (pgs_cons (pg_name (i := 2) scTold.nd rfl (Or.inl rfl)) pgs_nil)))))) (fun _ _ _ _ _ => pts_nil)
          (fun _ _ _ _ _ => by exact (pe_callTy call_tupleF (by rfl) tuple (by decide +kernel) (pa_cons (pe_callB (call_sortedR hu) (by rfl) sorted (by decide +kernel) (pa_cons (pv 2) pa_nil)) pa_nil))))), ?_⟩
    refine ⟨_, rfl, w, rfl, ⟨_, SqL.of wl.hw⟩, fun D hD => ?_⟩
    refine lc_list (K := K) (a := w) (xs := ps.map V.ref) (fun i H' => Same H H' ∧ ∃ qs : List Addr, H' D = some (.lst (qs.map V.ref)) ∧ RTups H' qs ((rss.take i).map sortR) ∧ qs.length = i) ⟨same_upd hD, [], upd_same, .nil, rfl⟩ (fun i H' _ z => SqL.of (z.1 _ _ wl.hw)) ?_ ?_
    · rintro i y H2 hi ⟨s2, qs, e2, rt, lq⟩
      have lt : i < ts.length := by
        have := (List.getElem?_eq_some_iff.mp hi).1
        rw [List.length_map, wl.lp] at this
        exact this
      obtain ⟨p, rl, t, rs, e1, _, e3, e4, sm, vs, h0, _, h3, h4⟩ := wl.at lt
      rw [List.getElem?_map, e1] at hi
      obtain rfl := Option.some.inj hi
      have tok := okt t (List.mem_of_getElem? e3)
      obtain ⟨c, cs, ecs⟩ := shp_cons tok
      refine ⟨p, [.ref sm, .ref rl], rfl, SqL.of (s2 _ _ h0), rfl, _, _, rfl, _, _, rfl, rfl, ?_⟩
      refine ⟨rfl, ?_⟩
      dsimp only [tYes]
      rw [if_pos rfl]
      refine ⟨_, rfl, rl, vs, rs, c, cs, rfl, SqL.of (s2 _ _ h3), RowsAt.keep (Fz.of_same s2) h4, fun r m => ?_, fun q vs' hq rv => ⟨q, vs', rfl, SqL.of upd_same, fun q2 ob hq2 hob => ?_⟩⟩
      · rw [← ecs]
        exact ok_shp (okr i t rs e3 e4 r m)
      have sa := same_upd (o := .lst vs') hq
      have sb := same_upd (o := .frz ob (.tup vs')) hq2
      have sab := sa.trans sb
      have s03 := s2.trans sab
      have nD : q2 ≠ D := fun z => by
        rw [z, sa _ _ e2] at hq2
        cases hq2
      refine ⟨_, sab _ _ e2, by rw [List.length_map]; omega, fun b u e => ?_, qs ++ [q2], ?_, ?_, by rw [List.length_append, lq]; rfl⟩
      · rw [upd_ne (ne_of_none e hD)]
        exact s03 _ _ e
      · rw [upd_same, List.map_append]
        rfl
      · have fz : Fz (upd (upd H2 q (.lst vs')) q2 (.frz ob (.tup vs'))) (upd (upd (upd H2 q (.lst vs')) q2 (.frz ob (.tup vs'))) D (.lst (qs.map V.ref ++ [V.ref q2]))) := fun b o xs e => by
          rw [upd_ne fun z => by rw [z, sab _ _ e2] at e; cases e]
          exact e
        rw [List.take_add_one, e4, List.map_append]
        exact each_append ((rt.mono fun _ _ z => z.keep (Fz.of_same sab)).mono fun _ _ z => z.keep fz) (.cons (RTup.keep ⟨ob, vs', upd_same, hob, RowsAt.keep (Fz.of_same sab) rv⟩ fz) .nil)
    · rintro H2 ⟨s2, qs, e2, rt, lq⟩
      rw [List.length_map, wl.lp, ← wl.ls, List.take_length] at rt
      exact k H2 D qs s2 hD e2 rt
end
end Vm
/-! the law: values that are no change; a change as data -/
namespace Vm
open PySem L2
abbrev sOddL : Stmt := top 57
def oddA : List Tr := [.non, .bl true, .int 0, .str "insert", .tup [], .lst [], .dct [] [], .tup [.str "insert"], .tup [.str "insert", .str "t", .tup [.str "a"], .tup [.str "a"]], .lst [.str "insert", .str "t", .tup [.str "a"]]]
def oddB : List Tr := [.tup [.str "delete", .int 0, .tup []], .tup [.str "insert", .str "nowhere", .tup [.str "a"]], .tup [.str "delete", .str "t", .lst [.str "a"]]]
theorem odds_w : ∀ t ∈ oddA ++ oddB, t.w ≤ 100 := by
  intro t h
  unfold oddA oddB at h
  simp only [List.cons_append, List.nil_append, List.mem_cons, List.not_mem_nil, or_false] at h
  rcases h with e | e | e | e | e | e | e | e | e | e | e | e | e <;> subst e <;> decide +kernel
theorem nowhere_no : ("nowhere" : Str) ∉ namesOf.flatten := by decide +kernel
theorem first_none {ts : List Ti} {t : Tr} (h : ∀ ti ∈ ts, isS ti.nm t = false) : firstAt ts t = none := by
  unfold firstAt
  refine List.findIdx?_eq_none_iff.mpr fun ti m => ?_
  rw [h ti m]
theorem chg_no_rows {ts : List Ti} {k nm r : Tr} {rs : List Tr} (h : rowsOk ts nm (r :: rs) = false) : isChg ts (.tup (k :: nm :: r :: rs)) = false := by
  show chgK ts nm (r :: rs) k = false
  cases k <;> first | rfl | (unfold chgK; dsimp only; rw [h, Bool.and_false])
theorem chg_no_len {ts : List Ti} {kd : Str} {nm r : Tr} {rs : List Tr} (h : ¬ lenV kd = .int (((r :: rs).length + 2 : Nat) : Int)) : isChg ts (.tup (.str kd :: nm :: r :: rs)) = false := by
  show chgK ts nm (r :: rs) (.str kd) = false
  unfold chgK
  dsimp only
  rw [decide_eq_false h, Bool.false_and]
theorem odds_no {ts : List Ti} (wn : Wn ts) : ∀ t ∈ oddA ++ oddB, isChg ts t = false := by
  intro t h
  have f0 : firstAt ts (.int 0) = none := first_none fun _ _ => rfl
  have f1 : firstAt ts (.str "nowhere") = none := first_none fun ti m => by
    show (("nowhere" : Str) == ti.nm) = false
    exact beq_eq_false_iff_ne.mpr fun e => nowhere_no (by rw [e]; exact wn.src ti m)
  unfold oddA oddB at h
  simp only [List.cons_append, List.nil_append, List.mem_cons, List.not_mem_nil, or_false] at h
  rcases h with e | e | e | e | e | e | e | e | e | e | e | e | e <;> subst e
  · rfl
  · rfl
  · rfl
  · rfl
  · rfl
  · rfl
  · rfl
  · rfl
  · exact chg_no_len (by decide +kernel)
  · rfl
  · refine chg_no_rows ?_
    unfold rowsOk
    rw [f0]
  · refine chg_no_rows ?_
    unfold rowsOk
    rw [f1]
  · refine chg_no_rows ?_
    unfold rowsOk
    cases firstAt ts (.str "t") with
    | none => rfl
    | some i =>
      dsimp only
      cases ts[i]? with
      | none => rfl
      | some ti => rfl
/-- a value that is no change of any table -/
def spOdd (K : PySem.W.Frag) : Sp := fun vs H Q _ => ∃ (s l : Addr) (ms : List Int) (z b : Int), vs = [.ref s] ∧ Src H s l ms z b ∧ 0 ≤ b ∧ b < 900000 ∧
  ∀ (H' : Hp) (ms' : List Int) (v : V) (t : Tr), But s l H H' → Src H' s l ms' z (b + 1) → t ∈ oddA ++ oddB → DP K H' (fun c => Off s l c ∧ H c = none) v t 2 → Q v H'
/-- picking from new data -/
theorem pick_data {K : PySem.W.Frag} {H H2 : Hp} {a l q : Addr} {ms : List Int} {z b : Int} {vs : List V} {ts : List Tr} {Q : VK} {E : XK} (hs : Src H a l ms z b) (b0 : 0 ≤ b) (b1 : b < 1000000) (s2 : Same H H2) (ds : DPs K H2 (NewIn H) vs ts 2) (hq : H2 q = none) (n0 : 0 < ts.length) (n1 : ts.length ≤ 1000)
    (k : ∀ (H' : Hp) (ms' : List Int) (v : V) (t : Tr), But a l H H' → Src H' a l ms' z (b + 1) → t ∈ ts → DP K H' (fun c => Off a l c ∧ H c = none) v t 2 → Q v H') : spPick K [.ref a, .ref q] (upd H2 q (.lst vs)) Q E := by
  have s3 := s2.trans (same_upd (o := .lst vs) hq)
  have hs3 := hs.but s3
  have ln := ds.length
  obtain ⟨ra, rl⟩ := (hs.but s2).free hq
  have er : upd H2 q (.lst vs) q = some (.lst vs) := upd_same
  have ds3 : DPs K (upd H2 q (.lst vs)) (NewIn H) vs ts 2 := ds.same (same_upd hq)
  generalize upd H2 q (.lst vs) = H3 at s3 hs3 er ds3 ⊢
  refine ⟨a, l, .ref q, ms, z, b, rfl, hs3, b0, b1, .inl ⟨q, vs, rfl, fun H' k' => SqL.of (k' _ _ ra rl er), by omega, by omega, fun H4 ms4 y k4 hs4 hy => ?_⟩⟩
  obtain ⟨t, ht, d⟩ := DP.mem ds3 hy
  exact k H4 ms4 y t ((But.of_same s3).trans k4) hs4 ht ((d.imp (Q := fun c => Off a l c ∧ H c = none) fun c e => ⟨hs.free e, e⟩).keep fun c o p e => k4 c o p.1.1 p.1.2 e)
section
variable {P : Program} {w : World} {K : PySem.W.Frag} {mg : Str → Option Value} {base : Heap} {fD fP : Addr}
theorem scOdd : FnScope ["_law_source_here", "_law_some"] ["_law_source_here"] (defScope sOddL) := ⟨rfl, rfl, rfl, by decide +kernel, rfl, by decide +kernel, by decide +kernel⟩
theorem pd_s {X : Cx} {z : Str} {k n : Nat} {p : Pos} (h1 : (reprText z).length ≤ 302) (h2 : z.length ≤ 302) : PE X (.Constant (.str z) k p) (tDt X.K (.str z) n) := pd_of pe_str fun H => .str (Nat.le_trans h1 (by decide)) (Nat.le_trans h2 (by decide))
theorem pd_i {X : Cx} {i : Int} {k n : Nat} {p : Pos} (h : i.natAbs < 10 ^ 40) : PE X (.Constant (.int i) k p) (tDt X.K (.int i) n) := pd_of pe_int fun H => .int (farOk h).1
theorem pd_b {X : Cx} {c : Bool} {k n : Nat} {p : Pos} : PE X (.Constant (.bool c) k p) (tDt X.K (.bl c) n) := pd_of pe_bl fun H => .bl c
theorem pd_n {X : Cx} {k n : Nat} {p : Pos} : PE X (.Constant .none k p) (tDt X.K .non n) := pd_of pe_non fun H => .non
theorem ok_odd {f : Addr} {fd fdP : FuncData} (F : Fun K "_law_odd" "_law_odd" sOddL f fd) (T : TxtL K mg fD fP) (GP : FnOk P w K mg base CX0 2 fP fdP ["_law_source_here", "_law_items"] (spPick K)) (bP : Binds K fdP ["_law_source_here", "_law_items"] []) : FnOk P w K mg base CX0 3 f fd ["_law_source_here"] (spOdd K) := by
  refine F.ok scOdd (fun vs H Q E h => ?_) (fun cdv A outer s H vs Q E hr h => ?_)
  · obtain ⟨s, l, ms, z, b, rfl, _⟩ := h
    rfl
  · obtain ⟨a, l, ms, z, b, rfl, hs, b0, b1, k⟩ := h
    refine ⟨_, pss_cons (ps_set (i := 1) scOdd.nd rfl (Or.inl rfl) (pe_lst (pd_cons (n := 2) (ts := oddA.drop 1) pd_n (pd_cons pd_b (pd_cons (pd_i (by decide)) (pd_cons (pd_s (by decide +kernel) (by decide +kernel))
        (pd_cons (pd_tup pd_nil (by decide)) (pd_cons (pd_lst pd_nil (by decide)) (pd_cons pd_dict (pd_cons (pd_tup (n := 1) (pd_cons (pd_s (by decide +kernel) (by decide +kernel)) pd_nil) (by decide))
        (pd_cons (pd_tup (n := 1) (pd_cons (pd_s (by decide +kernel) (by decide +kernel)) (pd_cons (pd_s (by decide +kernel) (by decide +kernel)) (pd_cons (pd_tup (n := 0) (pd_cons (pd_s (by decide +kernel) (by decide +kernel)) pd_nil) (by decide)) (pd_cons (pd_tup (n := 0) (pd_cons (pd_s (by decide +kernel) (by decide +kernel)) pd_nil) (by decide)) pd_nil)))) (by decide))
        (pd_cons (pd_lst (n := 1) (pd_cons (pd_s (by decide +kernel) (by decide +kernel)) (pd_cons (pd_s (by decide +kernel) (by decide +kernel)) (pd_cons (pd_tup (n := 0) (pd_cons (pd_s (by decide +kernel) (by decide +kernel)) pd_nil) (by decide)) pd_nil))) (by decide)) pd_nil))))))))))))
      (pss_one (ps_ret (pe_call GP hr rfl T.gP T.kP bP .nil pass0 (pa_cons (pv 0) (pa_cons (pe_op op_cat (pv 1) (pe_lst (pd_cons (n := 2) (ts := oddB.drop 1)
        (pd_tup (n := 1) (pd_cons (pd_s (by decide +kernel) (by decide +kernel)) (pd_cons (pd_i (by decide)) (pd_cons (pd_tup (n := 0) pd_nil (by decide)) pd_nil))) (by decide))
        (pd_cons (pd_tup (n := 1) (pd_cons (pd_s (by decide +kernel) (by decide +kernel)) (pd_cons (pd_s (by decide +kernel) (by decide +kernel)) (pd_cons (pd_tup (n := 0) (pd_cons (pd_s (by decide +kernel) (by decide +kernel)) pd_nil) (by decide)) pd_nil))) (by decide))
        (pd_cons (pd_tup (n := 1) (pd_cons (pd_s (by decide +kernel) (by decide +kernel)) (pd_cons (pd_s (by decide +kernel) (by decide +kernel)) (pd_cons (pd_lst (n := 0) (pd_cons (pd_s (by decide +kernel) (by decide +kernel)) pd_nil) (by decide)) pd_nil))) (by decide)) pd_nil))))) pa_nil))))), ?_⟩
    refine fun vs H2 s2 ds => ⟨by rw [ds.length]; decide, fun q hq => ?_⟩
    have big : sizeLine > 1000 := by decide
    have sq := same_upd (o := .lst vs) hq
    have eq : upd H2 q (.lst vs) q = some (.lst vs) := upd_same
    have ds := ds.same sq
    generalize upd H2 q (.lst vs) = H3 at sq eq ds ⊢
    refine ⟨_, rfl, _, rfl, fun vs' H4 s4 ds' => ⟨by rw [ds'.length]; decide, fun q' hq' => ?_⟩⟩
    have sq' := same_upd (o := .lst vs') hq'
    have eq' : upd H4 q' (.lst vs') q' = some (.lst vs') := upd_same
    have ds' := ds'.same sq'
    have ds1 := ds.same (s4.trans sq')
    have eq1 := sq' _ _ (s4 _ _ eq)
    have s05 := (s2.trans sq).trans (s4.trans sq')
    generalize upd H4 q' (.lst vs') = H5 at sq' eq' ds' ds1 eq1 s05 ⊢
    have l1 : vs.length = 10 := ds1.length
    have l2 : vs'.length = 3 := ds'.length
    refine ⟨q, q', vs, vs', rfl, rfl, eq1, eq', by omega, fun L hL => ?_⟩
    refine pick_data (E := E0) (ts := oddA ++ oddB) hs b0 (by omega) s05 (ds1.append (ds'.imp fun c e => (s2.trans sq).free e)) hL (by decide) (by decide) fun H' ms' v t k1 hs1 mem d => k H' ms' v t k1 hs1 mem d
end
/-! a change as data -/
def deedL (kd nm : Str) (us : List Row) : List Tr := .str kd :: .str nm :: us.map rowT
theorem rdp {K : PySem.W.Frag} {H : Hp} {s l : Addr} {ms : List Int} {z b : Int} (hs : Src H s l ms z b) {v : V} {r : Row} (h : RwAt H v r) (sm : ∀ c ∈ r, smallC c = true) : DP K H (Off s l) v (rowT r) 1 := by
  obtain ⟨p, o, rfl, e, d⟩ := h
  refine ⟨[p], .tup e d (cells_dt sm) List.not_mem_nil, fun c m => ?_⟩
  rw [List.mem_singleton.mp m]
  exact ⟨fun q => (by rw [q, hs.hs] at e; cases e), fun q => (by rw [q, hs.hl] at e; cases e)⟩
theorem rdps {K : PySem.W.Frag} {H : Hp} {s l : Addr} {ms : List Int} {z b : Int} (hs : Src H s l ms z b) : ∀ {xs : List V} {us : List Row}, RowsAt H xs us → (∀ r ∈ us, ∀ c ∈ r, smallC c = true) → DPs K H (Off s l) xs (us.map rowT) 1
  | _, _, .nil, _ => .nil
  | _, _, .cons h t, sm => .cons (rdp hs h (sm _ List.mem_cons_self)) (rdps hs t fun r m => sm r (List.mem_cons_of_mem _ m))
theorem kd_text {kd : Str} {n : Nat} (h : lenV kd = .int ((n + 2 : Nat) : Int)) : (reprText kd).length ≤ 20 ∧ kd.length ≤ 20 ∧ (n = 1 ∨ n = 2) := by
  rcases lenV_cases h with ⟨e, ln⟩ | ⟨e, ln⟩ | ⟨e, ln⟩ <;> subst e
  · exact ⟨by decide +kernel, by decide +kernel, .inl ln⟩
  · exact ⟨by decide +kernel, by decide +kernel, .inl ln⟩
  · exact ⟨by decide +kernel, by decide +kernel, .inr ln⟩
theorem DeedAt.dp {K : PySem.W.Frag} {H : Hp} {s l p : Addr} {ms : List Int} {z b : Int} {kd nm : Str} {us : List Row} (hs : Src H s l ms z b) (h : DeedAt H p kd nm us) (hn : nmS nm = true) (sm : ∀ r ∈ us, ∀ c ∈ r, smallC c = true) (hk : lenV kd = .int ((us.length + 2 : Nat) : Int)) :
    DP K H (Off s l) (.ref p) (.tup (deedL kd nm us)) 2 := by
  obtain ⟨o, xs, e, d, r⟩ := h
  obtain ⟨k1, k2, k3⟩ := kd_text hk
  have rows : ∀ {xs : List V} {us : List Row}, RowsAt H xs us → (∀ r ∈ us, ∀ c ∈ r, smallC c = true) → ∃ bs, DtAll K H xs (us.map rowT) 1 bs ∧ ∀ c ∈ bs, ∃ o' r', H c = some (.frz o' (.tup ((r' : Row).map Cell.v))) := by
    intro xs us h
    induction h with
    | nil => exact fun _ => ⟨[], .nil, (fun _ m => nomatch m)⟩
    | cons h t ih =>
      intro sm
      obtain ⟨bs, x1, x2⟩ := ih fun r m => sm r (List.mem_cons_of_mem _ m)
      obtain ⟨q, o', rfl, e', d'⟩ := h
      refine ⟨[q] ++ bs, .cons (.tup e' d' (cells_dt (sm _ List.mem_cons_self)) List.not_mem_nil) x1, fun c m => ?_⟩
      rcases List.mem_append.mp m with m | m
      · rw [List.mem_singleton.mp m]
        exact ⟨o', _, e'⟩
      · exact x2 c m
  obtain ⟨bs, x1, x2⟩ := rows r sm
  have b1 := (nm_text hn).1
  have b2 := (nm_text hn).2
  refine ⟨p :: ([] ++ ([] ++ bs)), .tup e d (.cons (.str (Nat.le_trans k1 (by decide)) (Nat.le_trans k2 (by decide))) (.cons (.str (Nat.le_trans b1 (by decide)) (Nat.le_trans b2 (by decide))) x1)) fun m => ?_, fun c m => ?_⟩
  · obtain ⟨o', r', e'⟩ := x2 p m
    rw [e] at e'
    have e2 := (HO.frz.inj (Option.some.inj e')).2
    have e3 : V.str kd :: V.str nm :: xs = r'.map Cell.v := by
      injection e2
    have l0 : 0 < xs.length := by
      rw [r.length]
      omega
    obtain ⟨x, hx⟩ := List.exists_mem_of_length_pos l0
    have hx2 : x ∈ r'.map Cell.v := by
      rw [← e3]
      exact List.mem_cons_of_mem _ (List.mem_cons_of_mem _ hx)
    obtain ⟨c, _, rfl⟩ := List.mem_map.mp hx2
    obtain ⟨i, hi⟩ := List.mem_iff_getElem?.mp hx
    obtain ⟨y, _, pp, _, e5, _⟩ := each_get r hi
    cases c <;> cases e5
  · have off : ∀ {c : Addr} {o : Obj} {xs : List V}, H c = some (.frz o (.tup xs)) → Off s l c := fun {c o xs} e => ⟨fun q => (by rw [q, hs.hs] at e; cases e), fun q => (by rw [q, hs.hl] at e; cases e)⟩
    rcases List.mem_cons.mp m with m | m
    · rw [m]
      exact off e
    · obtain ⟨o', r', e'⟩ := x2 c m
      exact off e'
theorem deed_w {t : Ti} {kd : Str} {us : List Row} (g : t.ok) (rk : ∀ r ∈ us, Rk t r) (hk : lenV kd = .int ((us.length + 2 : Nat) : Int)) : ws (deedL kd t.nm us) ≤ 1000 := by
  obtain ⟨k1, k2, k3⟩ := kd_text hk
  have h : ∀ us : List Row, (∀ r ∈ us, Rk t r) → ws (us.map rowT) ≤ 422 * us.length := by
    intro us
    induction us with
    | nil => exact fun _ => Nat.zero_le _
    | cons r us ih =>
      intro rk
      have h1 := (rk r List.mem_cons_self).w g
      have h2 := ih fun r m => rk r (List.mem_cons_of_mem _ m)
      show ((rowT r).w + 2) + ws (us.map rowT) ≤ 422 * (us.length + 1)
      omega
  have h1 := h us rk
  have b1 := (nm_text g.n1).1
  show ((reprText kd).length + 2) + (((reprText t.nm).length + 2) + ws (us.map rowT)) ≤ 1000
  rcases k3 with e | e <;> rw [e] at h1 <;> omega
/-- the last item of a change -/
theorem deed_last {H : Hp} {xs : List V} {us : List Row} {x y : V} (r : RowsAt H xs us) (n : us.length = 1 ∨ us.length = 2) : ∃ v o, atI (x :: y :: xs) (-1) = some v ∧ RwAt H v o ∧ o ∈ us := by
  cases r with
  | nil =>
    have : ([] : List Row).length = 0 := rfl
    omega
  | cons h t =>
    cases t with
    | nil => exact ⟨_, _, rfl, h, List.mem_cons_self⟩
    | cons h2 t2 =>
      cases t2 with
      | nil => exact ⟨_, _, rfl, h2, List.mem_cons_of_mem _ List.mem_cons_self⟩
      | cons h3 t3 =>
        rename_i a2 b2 _ _ _ _
        simp only [List.length_cons] at n
        omega
end Vm
namespace Vm
open PySem PySem.Spec PyProof.Rows L2
/-- a promise that may lean on: no repr is under way -/
structure FnG (P : Program) (w : World) (K : PySem.W.Frag) (mg : Str → Option Value) (base : Heap) (CX : CXT) (k : Nat) (f : Addr) (fd : FuncData) (ps : List Str) (sp : Sp) : Prop where
  lenG : ∀ vs H Q E, sp vs H Q E → vs.length = ps.length
  runG : ∀ (A : Around) (below : List Env) (s : Shared) (H : Hp) (gs : Args) (us : List Value) (vs : List V) (Q : VK) (E : XK), A.guards = some [] → Room k A → Env0 P w K mg base A below s H → BindsTo s fd gs (ps.zip us) → Vals vs us →
    sp vs H Q E → codeAny (model P w) A (.call (.ref f) gs) (CR CX below P w H s Q E) s
section
variable {P : Program} {w : World} {K : PySem.W.Frag} {mg : Str → Option Value} {base : Heap}
theorem okG {CX : CXT} {x qual : Str} {st : Stmt} {f : Addr} {fd : FuncData} {N ps : List Str} {k : Nat} {sp : Sp} (F : Fun K x qual st f fd) (S : FnScope N ps (defScope st)) (len : ∀ vs H Q E, sp vs H Q E → vs.length = ps.length)
    (hbody : ∀ (cdv : Value) (A : Around) (below : List Env) (s : Shared) (H : Hp) (vs : List V) (Q : VK) (E : XK), A.guards = some [] → Room k (A.deeper (envOfC qual (defScope st) s.heap.objs.size f cdv)) → sp vs H Q E →
      ∃ t, PSs (cxOf CX P w K mg base N qual (defScope st) f cdv A below s H E) (defBody st) t ∧ t { nx := fun _ H' => Q .non H', rt := Q } (start N vs) H) : FnG P w K mg base CX (k + 1) f fd ps sp := by
  obtain ⟨oc, od, kV, doc, pm, an, cdv, ct, osl, rfl, lk, hcd⟩ := F.ex
  constructor
  · exact len
  intro A below s H gs us vs Q E ag room z bd rel want
  have KX : K.In s.heap := z.mod.kin.keeps fun b o e => (z.bs b o e).1
  have calm : s.heap.NoLimit := z.mod.nolimit.keeps fun b o e => (z.bs b o e).1
  have kinds : ∀ y ∈ ps.zip us, (defScope st).names.lookup y.1 = some .local ∨ ((defScope st).names.lookup y.1 = some .cell ∧ ((cellsFrom (s.heap.objs.size + 1) (defScope st).names []).lookup y.1).isSome = true) := by
    rintro ⟨n, v⟩ hy
    exact (S.par n (List.of_mem_zip hy).1).imp id fun q => ⟨q, PySem.W.cellsFrom_some _ _ _ (.inl q)⟩
  refine codeAny_call_function room.depth (KX _ _ lk) rfl S.co S.gen rfl (PySem.W.codeRec_of KX hcd) (bd _ _ _ _ ?_)
  refine wpAny_newFunctionEnv_cells S.kind kinds fun env same s1 x => ?_
  cases same
  refine ⟨calm.keeps x.toInCall.keep, codeAny_func ?_⟩
  obtain ⟨t, ht, go⟩ := hbody cdv A below s H vs Q E ag (room.deeper _) want
  have J := inv_start (CX := CX) (E := E) (P := P) (w := w) (K := K) (mg := mg) S room.hd z (len _ _ _ _ want) rel x
  refine wpAny_mono (ht.run [] s1 (start N vs) H _ J go) (fun fl s' got => ?_) fun _ _ got => got
  cases fl with
  | ret u => exact let ⟨v, _, H', J', rv, q⟩ := got; ⟨v, H', J'.os, J'.bare, J'.base, J'.hok, rv, q⟩
  | next => exact let ⟨_, H', J', q⟩ := got; ⟨.non, H', J'.os, J'.bare, J'.base, J'.hok, rfl, q⟩
  | brk => exact (let ⟨_, _, _, q⟩ := got; q : False).elim
  | cont => exact (let ⟨_, _, _, q⟩ := got; q : False).elim
theorem okG0 {x qual : Str} {st : Stmt} {f : Addr} {fd : FuncData} {N ps : List Str} {k : Nat} {sp : Sp} (F : Fun K x qual st f fd) (S : FnScope N ps (defScope st)) (len : ∀ vs H Q E, sp vs H Q E → vs.length = ps.length)
    (hbody : ∀ (cdv : Value) (A : Around) (below : List Env) (s : Shared) (H : Hp) (vs : List V) (Q : VK) (E : XK), A.guards = some [] → Room k (A.deeper (envOfC qual (defScope st) s.heap.objs.size f cdv)) → sp vs H Q E →
      ∃ t, PSs (cxOf CX0 P w K mg base N qual (defScope st) f cdv A below s H E).nox (defBody st) t ∧ t { nx := fun _ H' => Q .non H', rt := Q } (start N vs) H) : FnG P w K mg base CX0 (k + 1) f fd ps sp :=
  okG F S len fun cdv A below s H vs Q E ag room want => (hbody cdv A below s H vs Q E ag room want).imp fun t h => ⟨h.1.nox, h.2⟩
end
section
variable {X : Cx} {CX : CXT} {k : Nat} {f : Addr} {fd : FuncData} {ps : List Str} {sp : Sp} {x : Str} {p pos : Pos} {e : Expr} {es : List Expr} {t : TA}
theorem pe_callG (F : FnG X.prog X.w X.K X.mg X.base CX0 k f fd ps sp) (ag : X.A.guards = some []) (room : Room k X.A) (hg : Gl X x) (hm : X.mg x = some (.ref f)) (hk : PySem.W.keepIn X.K (.ref f) = true) (hb : Binds X.K fd ps [])
    (ha : PA X (e :: es) t) (nd : (x == ("__debug__" : Str)) = false := by decide) (one : starEach (e :: es) X.env = (false, eval e X.env) :: starEach es X.env := by rfl) (plain : (backTo pos (starEach es X.env)).any (·.1) = false := by rfl) :
    PE X (.Call (.Name x p) (e :: es) [] pos) (tCall sp [] E0 t) := by
  constructor
  intro pins s σ H Q I h
  refine wpAny_Call_Name_kw (ld_glob I hg hm (PySem.W.callWith_K (h₀ := X.base) I.ok.mod.kin hk (thn (ha.run pos pins s σ H _ I h) ?_) one plain) nd)
  rintro us s1 ⟨vs, H1, I1, rel, want⟩
  rw [List.append_nil] at want
  refine ⟨I1.kIn, wpAny_call (codeAny_mono (F.runG X.A X.stack s1 H1 ⟨us, []⟩ us vs Q E0 ag room I1.env0 ?_ rel want) ?_)⟩
  · have z := hb s1 us I1.kIn (by rw [List.append_nil, ← rel.length]; exact F.lenG _ _ _ _ want)
    rwa [List.append_nil] at z
  · intro r s' got
    match r, got with
    | .ok (.ret u), got => exact I1.after got
end
/-- the call of the law itself -/
theorem law_callG {P : Program} {w : World} {K : PySem.W.Frag} {mg mb : Str → Option Value} {k : Nat} {fa a : Addr} {fd : FuncData} {x : Str} {sp : Sp} {s₁ : Shared} {vs : List Value} {ns : List Int}
    (KX : K.In s₁.heap) (hns : s₁.heap.Ns mainGlobals mg) (hb : s₁.heap.Ns builtinsNs mb) (hbb : ∀ x : Str, x ≠ "__name__" → mb x = bootBuiltins x) (hlim : s₁.heap.NoLimit) (hg : s₁.gens = #[])
    (ha : s₁.heap.get? a = some { cls := .type "list", data := .seq vs.toArray }) (hi : IntsAre vs ns) (hl : ns.length ≤ sizeLine) (room : Room k callerA)
    (F : ∀ base : Heap, K.In base → base.Ns mainGlobals mg → FnG P w K mg base CX0 k fa fd [x] sp) (bd : ∀ (s : Shared) (u : Value), BindsTo s fd ⟨[u], []⟩ [(x, u)])
    (want : ∀ H : Hp, Only H → SqL K H a (ns.map V.int) → sp [.ref a] H (fun v _ => v = .bl true) fun _ _ _ => False) :
    codeAny (model P w) callerA (.call (.ref fa) ⟨[.ref a], []⟩) (fun r s' => r = .ok (.ret (.bool true)) ∧ OldK s₁.heap s'.heap ∧ s'.os = s₁.os ∧ AllBare s'.gens) s₁ := by
  have key : ∀ H : Hp, (∀ b u, H b = some u → b = a ∧ K.lookup a = none ∧ ∃ o xs, u = .frz o (.lst xs)) → SqL K H a (ns.map V.int) → HOk P w H s₁.heap →
      codeAny (model P w) callerA (.call (.ref fa) ⟨[.ref a], []⟩) (fun r s' => r = .ok (.ret (.bool true)) ∧ OldK s₁.heap s'.heap ∧ s'.os = s₁.os ∧ AllBare s'.gens) s₁ := by
    intro H own hS hok
    have nonev : ∀ {b : Addr}, (∀ u, H b ≠ some u) → H b = none := fun {b} n => by
      cases q : H b with
      | none => rfl
      | some u => exact absurd q (n u)
    have only : Only H := fun b => by
      cases q : H b with
      | none => exact .inl rfl
      | some u => exact let ⟨_, _, o, xs, e⟩ := own b u q; .inr ⟨o, xs, by rw [e]⟩
    have space : ∀ {b : Addr} {m : Str → Option Value}, s₁.heap.Ns b m → (hidT s₁.heap H).Ns b m := by
      rintro b m ⟨o, es, ep, e, d, r⟩
      refine ⟨o, es, ep, hidT_get e (nonev fun u z => ?_), d, r⟩
      rw [(own b u z).1, ha] at e
      cases e
      cases d
    have kb : K.In (hidT s₁.heap H) := fun b o e => hidT_get (KX b o e) (nonev fun u z => by
      obtain ⟨rfl, q, _⟩ := own b u z
      rw [q] at e
      cases e)
    obtain ⟨mc, c1, c2⟩ := hlim
    have z0 : Env0 P w K mg (hidT s₁.heap H) callerA [] s₁ H :=
      { frames := rfl, mod := ⟨kb, space hns, ⟨mb, space hb, hbb⟩, ⟨mc, space c1, c2⟩⟩, bs := fun b o e => of_hidT e, bsz := Nat.le_of_eq (hidT_size _ _), funs := trivial, frf := fun b hb => absurd (show b ∈ ([] : List Addr) from hb) (by simp), hok := hok, bare := .of_eq hg }
    refine codeAny_mono ((F _ kb (space hns)).runG callerA [] s₁ H ⟨[.ref a], []⟩ [.ref a] [.ref a] _ _ rfl room z0 (bd s₁ (.ref a)) (.cons rfl .nil) (want H only hS)) ?_
    intro r s' got
    match r, got with
    | .ok (.ret u), got =>
      obtain ⟨v, H', os, bare, un, hok', rv, ev⟩ := got
      have ev' : v = .bl true := ev
      subst ev'
      obtain rfl : u = Value.bool true := rv
      refine ⟨rfl, OldK.of_keep fun b o e => ?_, os, bare⟩
      cases q : H b with
      | none => exact un.keep b o e q (fun z => nomatch (show b ∈ ([] : List Addr) from z)) (by simp)
      | some u =>
        obtain ⟨_, _, ob, xs, rfl⟩ := own b u q
        have e1 := (hok b _ q).1
        rw [e] at e1
        cases e1
        exact (hok' b _ (un.frzs b o _ q)).1
  have rel := vals_ints hi
  cases lk : K.lookup a with
  | some o =>
    have e := KX a o lk
    rw [ha] at e
    cases e
    exact key (fun _ => none) (fun b u z => nomatch (show (none : Option HO) = some u from z)) (.inr ⟨_, vs.toArray, _, lk, rfl, rfl, rfl, by rw [List.size_toArray, hi.length]; exact hl, by simpa using rel⟩) (fun b u z => nomatch (show (none : Option HO) = some u from z))
  | none =>
    have at_a : ∀ {b : Addr} {u : HO}, (if b = a then some (HO.frz { cls := .type "list", data := .seq vs.toArray } (.lst (ns.map V.int))) else none) = some u → b = a ∧ u = .frz { cls := .type "list", data := .seq vs.toArray } (.lst (ns.map V.int)) := fun {b u} z => by
      split at z
      · rename_i e
        exact ⟨e, (Option.some.inj z).symm⟩
      · cases z
    refine key (fun b => if b = a then some (.frz { cls := .type "list", data := .seq vs.toArray } (.lst (ns.map V.int))) else none) (fun b u z => ⟨(at_a z).1, lk, _, _, (at_a z).2⟩) (.inl (.inr ⟨_, if_pos rfl⟩)) (fun b u z => ?_)
    obtain ⟨rfl, rfl⟩ := at_a z
    exact ⟨ha, by rw [List.length_map]; exact hl, vs, _, rel, ha⟩
theorem walkG {l : PySem.W.OpenLaw} {n k : Nat} {q : Program} {loose : List Str} {XP : (Str → Option Value) → Heap → Prop} {YP : World → Heap → Prop} {d : DefRec} {K : Params → PySem.W.Frag} {sp : PySem.W.Frag → Sp} {x : Str}
    (most : l.most = some n) (n0 : n ≤ sizeLine) (nodef : d.params.defaults = []) (room : Room k callerA) (inY : ∀ (w : World) (h : Heap), YP w h → (K w.params).In h)
    (F : ∀ (w : World) (mg : Str → Option Value) (fa : Addr) (h : Heap), (K w.params).In h → h.Ns mainGlobals mg → mg d.name = some (.ref fa) →
      ∃ fd : FuncData, (∀ (s : Shared) (u : Value), BindsTo s fd ⟨[u], []⟩ [(x, u)]) ∧ ∀ base : Heap, (K w.params).In base → base.Ns mainGlobals mg → FnG l.prog w (K w.params) mg base CX0 k fa fd [x] (sp (K w.params)))
    (want : ∀ (K : PySem.W.Frag) (H : Hp) (a : Addr) (ns : List Int), ns.length ≤ n → Only H → SqL K H a (ns.map V.int) → sp K [.ref a] H (fun v _ => v = .bl true) fun _ _ _ => False) :
    PySem.W.WalkO q loose XP YP l.row.toRowW d [] (fun f vs => PySem.call f vs) := by
  refine Att.attach_call most nodef ?_
  intro w s₀ s₁ mg mb fa o pm cd doc a vs ns G Y _ _ _ hmg hobj wh short gens
  have KX := inY w _ Y
  obtain ⟨fd, bd, ok⟩ := F w mg fa _ KX G.T.g hmg
  exact law_callG KX G.T.g G.T.b G.T.builtins G.T.nolimit gens hobj wh (Nat.le_trans short n0) room ok bd fun H o hS => want (K w.params) H a ns short o hS
end Vm
/-! the law: what do returns, or the error -/
namespace Vm
open PySem PySem.Spec PyProof.Rows L2
abbrev sDone : Stmt := top 58
/-- a call that raises nothing, in any body -/
theorem passN {X : Cx} (σ : L2.St) : PassesAt CX0 X σ ((fun _ => E0) σ) := fun pins H s e s' I c => pass0 pins σ H s e s' I c
/-! isinstance of a caught exception with a dict -/
def rIsEd (K : PySem.W.Frag) (D a : Addr) (cls : Value) (d : Option Addr) : List V → Hp → VK → Prop := fun xs H Q => cls = .ref D ∧ ∃ (dd : Addr) (fs : List (Str × V)) (c : V) (cv : Value) (b : Bool), d = some dd ∧ H dd = some (.xd fs) ∧ xs = [.ref a, c] ∧ (∀ u, RelV c u → u = cv) ∧ PySem.W.kitOne K (.ref D) cv = some b ∧ Q (.bl b) H
theorem call_isEd {X : Cx} {a D : Addr} {oe : Obj} {cls : Value} {d : Option Addr} {pn : List (Addr × Obj)} (C : ExcC X.K D) (hz : Zc cls d oe) (hf : ∃ vs, oe.data = .fields vs) : CallR (X.suite a ((a, oe) :: pn)) (.builtin "isinstance") (rIsEd X.K D a cls d) := by
  intro pins s σ H xs us Q I r h
  obtain ⟨ec, dd, fs, c, cv, b, ed, ea, rfl, hcv, e, q⟩ := h
  subst ec
  subst ed
  cases r with
  | cons rx rr =>
    cases rr with
    | cons rt rr =>
      cases rr
      cases rx
      have ec := hcv _ rt
      subst ec
      obtain ⟨hget, _⟩ := I.pin (a, oe) (List.mem_append.mpr (.inl List.mem_cons_self))
      obtain ⟨vs, hv⟩ := hf
      have hx : ObjOk X.prog X.w H s.heap dd (.xd fs) := I.hok dd _ ea
      obtain ⟨mA, hns, hr⟩ := hx
      obtain ⟨od, ho, hl⟩ := lookIn_ns hns
      have J : PySem.W.InstAt s.heap a oe D (some od) := ⟨hget, hz.1, by unfold PySem.W.notCls; rw [hv] <;> rfl, by rw [hz.2]; exact ho⟩
      have hcl : (PySem.W.clsIn X.K D).isSome = true := by
        obtain ⟨cd, hc, _⟩ := PySem.W.any_some C.hd
        rw [hc]
        rfl
      exact PySem.W.kia_one (PySem.W.kitx_exc hcl C.hg C.hk C.hs C.ha C.hn C.ht C.hm) I.kIn J e (fun z => nomatch z) fun tk => ⟨.bl b, H, I.kept (t' := tk) fun _ _ z => z, rfl, q⟩
/-- what the written part says of the errors -/
structure TxtH (K : PySem.W.Frag) (mg : Str → Option Value) (CI tT : Addr) : Prop where
  gT : mg "TurnError" = some (.ref tT)
  gVE : mg "ValueError" = none
  gI : mg "InvalidChange" = some (.ref CI)
  xc : ExcC K CI
  no : PySem.W.findIn K (.ref CI) "change" = some none
  em : PySem.W.exmOne K (.ref CI) (.ref CI) = some true
  k1 : PySem.W.kitOne K (.ref CI) (.ref tT) = some true
  k2 : PySem.W.kitOne K (.ref CI) (.type "ValueError") = some true
theorem _root_.L2.ExcC.xf {K : PySem.W.Frag} {C : Addr} (T : ExcC K C) : XfC K C := ⟨T.hg, T.hk, T.hs, T.hd⟩
/-- the promise of do, by position -/
abbrev spDoR (K : PySem.W.Frag) (C CT CIC : Addr) : Sp := fun vs H Q E => ∃ ws rest, vs = ws ++ rest ∧ ws.length = (["self"] : List Str).length ∧ rest.length ≤ sizeLine ∧ ∀ p, H p = Option.none → spDo K C CT CIC (ws ++ [V.ref p]) (upd H p (.tup rest)) Q E
def spDone (K : PySem.W.Frag) (C CT : Addr) : Sp := fun vs H Q _ => ∃ (N : Nat) (st dx tp rd D : Addr) (ws : List V) (ts : List Ti) (qs : List Addr) (rss : List (List Row)) (xs : List V) (us : List Tr), vs = [.ref st, .ref D] ∧ StAt K H C CT st dx tp rd ws ts qs rss ∧ H D = some (.lst xs) ∧
  PySem.W.EachIs (fun v t => (∃ n bs, Dt K H v t n bs) ∧ t.w ≤ 10000) xs us ∧ us.length ≤ 3 ∧ Fit N ts rss ∧ N ≤ 80 ∧
  ((∀ t ∈ us, isChg ts t = true) → ∀ H' q qs', Du rd H H' → H q = none → (∃ o : Obj, H' q = some (.frz o (.tup ((boolsT ts rss us).map V.bl))) ∧ o.dict = none) → StAt K H' C CT st dx tp rd ws ts qs' (stepsT ts rss us) → Q (.ref q) H') ∧
  (∀ (i : Nat) v t, xs[i]? = some v → us[i]? = some t → isChg ts t = false → (∀ j, j < i → ∀ tj, us[j]? = some tj → isChg ts tj = true) → ∀ q H', Same H H' → H q = none → H' q = some (.lst [.str "invalid", v]) → Q (.ref q) H')
section
variable {P : Program} {w : World} {K : PySem.W.Frag} {mg : Str → Option Value} {base : Heap} {fNm fNms C CT CIC tT fTO fRO fIC fIP fDo : Addr}
theorem scDone : FnScope ["_law_store_here", "_law_some", "_law_found", "e"] ["_law_store_here", "_law_some"] (defScope sDone) := ⟨rfl, rfl, rfl, by decide +kernel, rfl, by decide +kernel, by decide +kernel⟩
theorem ok_done {f : Addr} {fd : FuncData} (F : Fun K "_law_done" "_law_done" sDone f fd) (T : TxtP K mg fNm fNms) (S : TxtS K mg C fTO fRO fIC fIP) (W : TxtH K mg CIC tT) (mDo : Meth K C "do" fDo)
    (GDo : FnR P w K mg base (L2.CX P w) 7 fDo (spDoR K C CT CIC)) : FnOk P w K mg base CX0 8 f fd ["_law_store_here", "_law_some"] (spDone K C CT) := by
  refine F.ok scDone (fun vs H Q E h => ?_) (fun cdv A outer s H vs Q E hr h => ?_)
  · obtain ⟨N, st, dx, tp, rd, D, ws, ts, qs, rss, xs, us, rfl, _⟩ := h
    rfl
  · obtain ⟨N, st, dx, tp, rd, D, ws, ts, qs, rss, xs, us, rfl, sa, eD, ds, l3, fit, hN, k1, k2⟩ := h
    have big : sizeLine > 100000 := by decide
    let ln : Int → TT := fun n => tTest (tOp rEq (tCB (rLenS K) (tCons (tVar 1) tNil)) (tC (.int n)))
    let ix : Int → TE := fun n => tOp (rIxL K) (tVar 1) (tC (.int n))
    let go : WX → TA → TS := fun Wx t => tAsg (tMRSl C "do" (spDoR K C CT CIC) (WE Wx) (tVar 0) t) (gName 2)
    let tb : WX → TS := fun Wx => tIfS (ln 0) (go Wx tNil) (tIfS (ln 1) (go Wx (tCons (ix 0) tNil)) (tIfS (ln 2) (go Wx (tCons (ix 0) (tCons (ix 1) tNil))) (go Wx (tCons (ix 0) (tCons (ix 1) (tCons (ix 2) tNil))))))
    let th : Addr → Value → Option Addr → TS := fun a cls d => tAsg (tIf (tB (tCB (rIsEd K CIC a cls d) (tCons (tVar 3) (tCons (tC (.ref tT)) tNil)))) (tLst (tCons (tC (.str "invalid")) (tCons (tXf a cls d CIC "change" (tVar 3)) tNil))) (tC (.str "odd"))) (gName 2)
    refine ⟨_, pss_cons (ps_set (i := 2) scDone.nd rfl (Or.inl rfl) pe_str)
      (pss_cons (ps_try_as (i := 3) (tb := tb) (ts := th) (Wout := fun _ _ _ _ => False) rfl rfl scDone.nd rfl rfl ⟨rfl, by decide, Or.inl W.gI⟩ takes0
        (fun Wx pn xe tk _ => (pss_one (ps_if (by exact (pt_cmpR op_eq (pe_callB call_len_seq (by rfl) T.len (by decide +kernel) (pa_cons (pv 1) pa_nil)) pe_int (nomark _))) (pss_one (ps_set (i := 2) scDone.nd rfl (Or.inl rfl) (by exact (pe_mRS0 (pv 0) S.cl mDo GDo hr (fun σ => passAt tk σ))))) (pss_one (ps_if (by exact (pt_cmpR op_eq (pe_callB call_len_seq (by rfl) T.len (by decide +kernel) (pa_cons (pv 1) pa_nil)) pe_int (nomark _))) (pss_one (ps_set (i := 2) scDone.nd rfl (Or.inl rfl) (by exact (pe_mRS (pv 0) S.cl mDo GDo hr (fun σ => passAt tk σ) (pa_cons (pe_ix ix_list (pv 1) pe_int (fun _ _ => rfl)) pa_nil))))) (pss_one (ps_if (by exact (pt_cmpR op_eq (pe_callB call_len_seq (by rfl) T.len (by decide +kernel) (pa_cons (pv 1) pa_nil)) pe_int (nomark _))) (pss_one (ps_set (i := 2) scDone.nd rfl (Or.inl rfl) (by exact (pe_mRS (pv 0) S.cl mDo GDo hr (fun σ => passAt tk σ) (pa_cons (pe_ix ix_list (pv 1) pe_int (fun _ _ => rfl)) (pa_cons (pe_ix ix_list (pv 1) pe_int (fun _ _ => rfl)) pa_nil)))))) (pss_one (ps_set (i := 2) scDone.nd rfl (Or.inl rfl) (by exact (pe_mRS (pv 0) S.cl mDo GDo hr (fun σ => passAt tk σ) (pa_cons (pe_ix ix_list (pv 1) pe_int (fun _ _ => rfl)) (pa_cons (pe_ix ix_list (pv 1) pe_int (fun _ _ => rfl)) (pa_cons (pe_ix ix_list (pv 1) pe_int (fun _ _ => rfl)) pa_nil))))))))))))))
        (fun a oe cls d pn hz hf => pss_one (ps_set (i := 2) scDone.nd rfl (Or.inl rfl) (by exact (pe_ifExp (pt_val (pe_callB (call_isEd W.xc hz hf) (by rfl) T.isi (by decide +kernel) (pa_cons (pv 3) (pa_cons (pe_glob (v := .ref tT) (by rfl) W.gT rfl) pa_nil))))
            (pe_lst (pa_cons pe_str (pa_cons (pe_xf W.xc.xf W.no hz hf (pv 3)) pa_nil))) pe_str)))))
      (pss_one (ps_ret (pv 2)))), ?_⟩
    have lx : xs.length = us.length := ds.length
    have main : ∀ (Dn : L2.St → Hp → Prop) (Ex : XK), ((∀ t ∈ us, isChg ts t = true) → ∀ H' q qs', Du rd H H' → H q = none → (∃ o : Obj, H' q = some (.frz o (.tup ((boolsT ts rss us).map V.bl))) ∧ o.dict = none) → StAt K H' C CT st dx tp rd ws ts qs' (stepsT ts rss us) → Dn [some (.ref st), some (.ref D), some (.ref q), none] H') →
        (∀ (i : Nat) v t, xs[i]? = some v → us[i]? = some t → isChg ts t = false → (∀ j, j < i → ∀ tj, us[j]? = some tj → isChg ts tj = true) → ∀ d H', Same H H' → H d = none → H' d = some (.xd [("change", v)]) → Ex (.ref CIC) (some d) H') →
        spDoR K C CT CIC (.ref st :: xs) H (fun y H1 => Dn [some (.ref st), some (.ref D), some y, none] H1) Ex := fun Dn Ex q1 q2 => by
      refine ⟨[.ref st], xs, rfl, rfl, by omega, fun p hp => ?_⟩
      have sp := same_upd (o := .tup xs) hp
      have ep : upd H p (.tup xs) p = some (.tup xs) := upd_same
      generalize upd H p (.tup xs) = H1 at sp ep ⊢
      refine ⟨N, st, dx, tp, rd, p, ws, ts, qs, rss, xs, us, rfl, sa.same sp, SqT.of ep, ds.mono fun v t ⟨⟨n, bs, d⟩, tw⟩ => ⟨⟨n, bs, d.same sp⟩, tw⟩, by omega, fit, by omega, fun al H' q qs' du nq o sa' _ => ?_, fun i v t hv ht hc al d H' s' nd ed => ?_⟩
      · exact q1 al H' q qs' ((Du.of_same sp).trans du) (sp.free nq) o sa'
      · exact q2 i v t hv ht hc al d H' (sp.trans s') (sp.free nd) ed
    have fin : spDoR K C CT CIC (.ref st :: xs) H (fun y H1 => ({ nx := tRet (tVar 2) { nx := fun _ H' => Q .non H', rt := Q }, rt := Q } : Ends).nx [some (.ref st), some (.ref D), some y, none] H1)
        (WE (wAs K (.ref CIC) 3 th (fun _ _ _ _ => False) { nx := tRet (tVar 2) { nx := fun _ H' => Q .non H', rt := Q }, rt := Q }) [some (.ref st), some (.ref D), some (.str "odd"), none]) := by
      refine main _ _ (fun al H' q qs' du nq o sa' => ⟨_, rfl, k1 al H' q qs' du nq o sa'⟩) fun i v t hv ht hc al d H' s' nd ed => ?_
      refine ⟨true, W.em, fun _ a ha => ?_, fun q => nomatch q⟩
      refine ⟨_, rfl, rfl, d, _, .ref tT, .ref tT, true, rfl, ed, rfl, fun u r => r, W.k1, _, rfl, ?_⟩
      refine iteT ?_
      refine ⟨_, rfl, rfl, rfl, d, _, v, rfl, ed, rfl, by show 2 ≤ sizeLine; omega, fun q hq => ?_⟩
      exact ⟨_, rfl, k2 i v t hv ht hc al q _ (s'.trans (same_upd hq)) (s'.free hq) upd_same⟩
    refine ⟨_, rfl, D, xs, rfl, .inl (SqL.of eD), rfl, _, rfl, ?_⟩
    refine ite2 (fun e => ?_) (fun e0 => ?_)
    · have e1 := V.int.inj (of_decide_eq_true e)
      obtain rfl : xs = [] := List.eq_nil_of_length_eq_zero (by omega)
      refine ⟨_, rfl, st, dx, _, rfl, sa.hs, rfl, ?_⟩
      dsimp only [tNil]
      exact fin
    have n0 : xs.length ≠ 0 := fun z => e0 (decide_eq_true (by rw [z]; rfl))
    refine ⟨_, rfl, D, xs, rfl, .inl (SqL.of eD), rfl, _, rfl, ?_⟩
    refine ite2 (fun e => ?_) (fun e1 => ?_)
    · have e1 := V.int.inj (of_decide_eq_true e)
      obtain ⟨a, rfl⟩ : ∃ a, xs = [a] := List.length_eq_one_iff.mp (by omega)
      refine ⟨_, rfl, st, dx, _, rfl, sa.hs, rfl, _, rfl, D, _, ((0 : Nat) : Int), a, rfl, rfl, SqL.of eD, atI_nat rfl, ?_⟩
      dsimp only [tNil]
      exact fin
    have n1 : xs.length ≠ 1 := fun z => e1 (decide_eq_true (by rw [z]; rfl))
    refine ⟨_, rfl, D, xs, rfl, .inl (SqL.of eD), rfl, _, rfl, ?_⟩
    refine ite2 (fun e => ?_) (fun e2 => ?_)
    · have e1 := V.int.inj (of_decide_eq_true e)
      obtain ⟨a, a2, rfl⟩ := two_of (xs := xs) (by omega)
      refine ⟨_, rfl, st, dx, _, rfl, sa.hs, rfl, _, rfl, D, _, ((0 : Nat) : Int), a, rfl, rfl, SqL.of eD, atI_nat rfl, _, rfl, D, _, ((1 : Nat) : Int), a2, rfl, rfl, SqL.of eD, atI_nat rfl, ?_⟩
      dsimp only [tNil]
      exact fin
    have n2 : xs.length ≠ 2 := fun z => e2 (decide_eq_true (by rw [z]; rfl))
    obtain ⟨a, a2, a3, rfl⟩ := three_of (xs := xs) (by omega)
    refine ⟨_, rfl, st, dx, _, rfl, sa.hs, rfl, _, rfl, D, _, ((0 : Nat) : Int), a, rfl, rfl, SqL.of eD, atI_nat rfl, _, rfl, D, _, ((1 : Nat) : Int), a2, rfl, rfl, SqL.of eD, atI_nat rfl, _, rfl, D, _, ((2 : Nat) : Int), a3, rfl, rfl, SqL.of eD, atI_nat rfl, ?_⟩
    dsimp only [tNil]
    exact fin
end
end Vm
/-! a generator that a list comprehension drains: its reader has a list at D and a frame at B -/
namespace Vm
open PySem PySem.Spec PyProof.Rows L2 GenW
/-- while it sleeps, its reader puts v behind the list, and its own frame may turn -/
structure Dozed (D B : Addr) (v : Value) (s t : Shared) : Prop where
  os : t.os = s.os
  bare : AllBare t.gens
  rest : ∀ b o, b ≠ D → b ≠ B → s.heap.get? b = some o → t.heap.get? b = some o
  list : ∀ got c, s.heap.get? D = some (lstObj got c) → ∃ c2, t.heap.get? D = some (lstObj (got.push v) c2)
  frame : ∃ o, t.heap.get? B = some o ∧ ∀ u, o.data ≠ .cell u
/-- it runs: ys is out and lies in the list; the reader's frame is as it was at t0 -/
def Run (X : Cx) (D B : Addr) (ip : List (Addr × Obj)) (ys : List V) (σ : L2.St) (H : Hp) (t0 t : Shared) : Prop :=
  ∃ (got : Array Value) (c : Nat) (oB : Obj), Vals ys got.toList ∧ t0.heap.get? B = some oB ∧ Inv X ((D, lstObj got c) :: (B, oB) :: ip) σ H t
structure Far (X : Cx) (D B : Addr) (ip : List (Addr × Obj)) : Prop where
  pD : ∀ p ∈ X.pn ++ ip, p.1 ≠ D
  pB : ∀ p ∈ X.pn ++ ip, p.1 ≠ B
  aD : Apart X D
  aB : Apart X B
theorem Run.woken {X : Cx} {D B : Addr} {ip : List (Addr × Obj)} {ys : List V} {x : V} {v : Value} {σ : L2.St} {H : Hp} {t0 s t : Shared} (far : Far X D B ip) (hne : D ≠ B) (h : Run X D B ip ys σ H t0 s) (rv : RelV x v) (z : Dozed D B v s t) : Run X D B ip (ys ++ [x]) σ H t t := by
  obtain ⟨got, c, oB, r, _, I⟩ := h
  obtain ⟨pD1, pD2, pD3, pD4, _⟩ := I.pin (D, lstObj got c) (List.mem_append_right _ List.mem_cons_self)
  obtain ⟨pB1, pB2, pB3, pB4, _⟩ := I.pin (B, oB) (List.mem_append_right _ (List.mem_cons_of_mem _ List.mem_cons_self))
  have I0 : Inv X ip σ H s := I.pins_of fun p hp => I.pin p (List.mem_append_right _ (List.mem_cons_of_mem _ (List.mem_cons_of_mem _ hp)))
  have offD : ∀ b u, H b = some u → b ≠ D := fun b u q e => by
    rw [e] at q
    exact nomatch pD2.symm.trans q
  have offB : ∀ b u, H b = some u → b ≠ B := fun b u q e => by
    rw [e] at q
    exact nomatch pB2.symm.trans q
  obtain ⟨z1, z2, z3, z4, oB2, z5, z6⟩ := z
  obtain ⟨c2, eD⟩ := z4 got c pD1
  obtain ⟨hh, gg, dd, tt, oo⟩ := t
  cases (show oo = s.os from z1)
  have not2 : ∀ b, b ∉ [D, B] → b ≠ D ∧ b ≠ B := fun b hb => ⟨fun e => hb (by rw [e]; exact List.mem_cons_self), fun e => hb (by rw [e]; exact List.mem_cons_of_mem _ List.mem_cons_self)⟩
  have J : Inv X ip σ H { s with heap := hh, gens := gg, drawn := dd, toks := tt } := by
    refine I0.step (g' := gg) (t' := tt) (d' := dd) (ch := [D, B]) (fun b hb => ?_) (fun b o _ _ n q _ => z3 b o (not2 b n).1 (not2 b n).2 q) (fun b o _ _ n q _ => ⟨o.slots, z3 b o (not2 b n).1 (not2 b n).2 q⟩) (fun _ _ _ _ n => n)
      (fun b o n q => ⟨o, z3 b o (not2 b n).1 (not2 b n).2 q⟩) (fun _ _ q => q) (fun _ _ _ q => q) (fun b ps q => ⟨#[], by rw [q]; simp⟩) (fun m hm => ?_) (fun b u q => ?_) z2
    · rcases List.mem_cons.mp hb with e | hb
      · rw [e]
        exact ⟨.inr far.aD.1, far.aD.2.1, far.aD.2.2, far.pD⟩
      · rw [List.mem_singleton.mp hb]
        exact ⟨.inr far.aB.1, far.aB.2.1, far.aB.2.2, far.pB⟩
    · obtain ⟨o, es, ep, ho, more⟩ := hm
      exact ⟨o, es, ep, z3 _ o (Ne.symm pD3) (Ne.symm pB3) ho, more⟩
    · refine (I0.hok b u q).stay (fun e w hc y => z3 e w ?_ ?_ y) (fun _ y => y) fun _ _ y => y
      · rcases hc with y | y
        · rw [y]
          exact offD b u q
        · exact offD e _ y
      · rcases hc with y | y
        · rw [y]
          exact offB b u q
        · exact offB e _ y
  refine ⟨got.push v, c2, oB2, ?_, z5, J.pins_of fun p hp => ?_⟩
  · rw [Array.toList_push]
    exact r.append (.cons rv .nil)
  · rcases List.mem_cons.mp hp with e | hp
    · rw [e]
      exact ⟨eD, pD2, pD3, pD4, fun u q => by cases q⟩
    · rcases List.mem_cons.mp hp with e | hp
      · rw [e]
        exact ⟨z5, pB2, pB3, pB4, z6⟩
      · exact J.pin p (List.mem_append_right _ hp)
/-! the protocol, and what a statement of it does -/
def Yld (X : Cx) (D B : Addr) : Protocol := fun n s₀ v s kap => ∃ ys x ip σ H, n + 1 + ys.length = sizeLine ∧ RelV x v ∧ Run X D B ip ys σ H s₀ s ∧ ∀ t, Dozed D B v s t → kap (.send .none) t
def Ret (X : Cx) (D B : Addr) (Q : List V → VK) (F : Value → Shared → Prop) : GenEnd := fun n s₀ r s => match r with
  | .ok (.ret u) => ∃ ys v ip σ H, n + ys.length = sizeLine ∧ Run X D B ip ys σ H s₀ s ∧ RelV v u ∧ Q ys v H
  | .ok _ => False
  | .error e => F e s
def After (X : Cx) (D B : Addr) (ip : List (Addr × Obj)) (W : GEnds) (ys : List V) (f : Flow) (s₀ s : Shared) : Prop := match f with
  | .next => ∃ σ H, Run X D B ip ys σ H s₀ s ∧ W.nx ys σ H
  | .brk => ∃ σ H, Run X D B ip ys σ H s₀ s ∧ W.bk ys σ H
  | .cont => ∃ σ H, Run X D B ip ys σ H s₀ s ∧ W.ct ys σ H
  | .ret u => ∃ v σ H, Run X D B ip ys σ H s₀ s ∧ RelV v u ∧ W.rt ys v H
structure Here (X : Cx) (D B : Addr) (ip : List (Addr × Obj)) (A : Around) (c : Code) (fs : List Frame) (gd : Bool → Bool) : Prop where
  far : Far X D B ip
  ne : D ≠ B
  over : A.over c fs = X.A
  split : splitAtGen fs = none
  guard : fs.any Frame.guarded = false
  gd : gd false = false
structure Then (X : Cx) (D B : Addr) (ip : List (Addr × Obj)) (A : Around) (R : GenEnd) (c : Code) (fs : List Frame) (K : Flow → Sem PySem.Fin) (J : Value → Sem PySem.Fin) (W : GEnds) : Prop where
  ok : ∀ (n : Nat) (ys : List V) (s₀ s : Shared) (f : Flow), n + ys.length = sizeLine → After X D B ip W ys f s₀ s → Seg (model X.prog X.w) A R (Yld X D B) n s₀ c (K f) fs s
  exc : ∀ (n : Nat) (s₀ : Shared) (e : Value) (s : Shared), X.xe e s → Seg (model X.prog X.w) A R (Yld X D B) n s₀ c (J e) fs s
structure GT (X : Cx) (st : Stmt) (t : TGn) : Prop where
  run : ∀ (A : Around) (D B : Addr) (ip : List (Addr × Obj)) (R : GenEnd) (n : Nat) (ys : List V) (s₀ : Shared) (c : Code) (fs : List Frame) (K : Flow → Sem PySem.Fin) (J : Value → Sem PySem.Fin) (gd : Bool → Bool) (lv : List Value → List Value) (s : Shared) (σ : L2.St) (H : Hp) (W : GEnds),
    Here X D B ip A c fs gd → n + ys.length = sizeLine → Then X D B ip A R c fs K J W → Run X D B ip ys σ H s₀ s → t W ys σ H → Seg (model X.prog X.w) A R (Yld X D B) n s₀ c ((exec st X.env).wrap K J gd lv) fs s
structure GTs (X : Cx) (st : List Stmt) (t : TGn) : Prop where
  run : ∀ (A : Around) (D B : Addr) (ip : List (Addr × Obj)) (R : GenEnd) (n : Nat) (ys : List V) (s₀ : Shared) (c : Code) (fs : List Frame) (K : Flow → Sem PySem.Fin) (J : Value → Sem PySem.Fin) (gd : Bool → Bool) (lv : List Value → List Value) (s : Shared) (σ : L2.St) (H : Hp) (W : GEnds),
    Here X D B ip A c fs gd → n + ys.length = sizeLine → Then X D B ip A R c fs K J W → Run X D B ip ys σ H s₀ s → t W ys σ H → Seg (model X.prog X.w) A R (Yld X D B) n s₀ c ((execs st X.env).wrap K J gd lv) fs s
section
variable {X : Cx} {st : Stmt} {rest : List Stmt}
theorem gts_nil : GTs X [] tG0 := by
  refine ⟨fun A D B ip R n ys s₀ c fs K J gd lv s σ H W g hn k hI ht => ?_⟩
  exact seg_execs_nil (k.ok n ys s₀ s .next hn ⟨σ, H, hI, ht⟩)
theorem gts_cons {t u : TGn} (a : GT X st t) (b : GTs X rest u) : GTs X (st :: rest) (tGThen t u) := by
  refine ⟨fun A D B ip R n ys s₀ c fs K J gd lv s σ H W g hn k hI ht => ?_⟩
  refine seg_execs_cons ?_
  refine a.run A D B ip R n ys s₀ c fs _ J gd lv s σ H { W with nx := fun ys2 σ2 H2 => u W ys2 σ2 H2 } g hn ⟨fun n2 ys2 s02 s2 f hn2 hs => ?_, k.exc⟩ hI ht
  cases f with
  | next =>
    obtain ⟨σ2, H2, I2, q⟩ := hs
    exact b.run A D B ip R n2 ys2 s02 c fs K J gd lv s2 σ2 H2 W g hn2 k I2 q
  | brk => exact k.ok n2 ys2 s02 s2 .brk hn2 hs
  | cont => exact k.ok n2 ys2 s02 s2 .cont hn2 hs
  | ret u => exact k.ok n2 ys2 s02 s2 (.ret u) hn2 hs
theorem gt_yield {e : Expr} {yp pos : Pos} {te : TE} (he : PE X e te) (hco : X.env.scope.isCoroutine = false := by rfl) (hi : interactive X.env = false := by rfl) : GT X (.Expr (.Yield (some e) yp) pos) (tGYield te) := by
  refine ⟨fun A D B ip R n ys s₀ c fs K J gd lv s σ H W g hn k hI ht => ?_⟩
  obtain ⟨lt, ht⟩ := ht
  obtain ⟨n, rfl⟩ : ∃ m, n = m + 1 := ⟨n - 1, by omega⟩
  obtain ⟨got, cc, oB, r, eB, I⟩ := hI
  refine seg_Expr_Yield g.split g.gd g.guard ?_ hco hi
  rw [g.over]
  refine wpAny_mono (he.run _ s σ H _ I ht) (fun v s2 hv => ?_) fun x s2 hx => k.exc _ s₀ x s2 hx
  obtain ⟨x, H1, I1, rv, q⟩ := hv
  have R1 : Run X D B ip ys σ H1 s₀ s2 := ⟨got, cc, oB, r, eB, I1⟩
  intro kap hk
  refine ⟨ys, x, ip, σ, H1, hn, rv, R1, fun t z => hk .none t ?_⟩
  refine k.ok n (ys ++ [x]) t t .next ?_ ⟨σ, H1, R1.woken g.far g.ne rv z, q⟩
  rw [List.length_append, List.length_singleton]
  omega
end
end Vm
/-! for in a generator -/
namespace Vm
open PySem PySem.Spec PyProof.Rows L2 GenW
section
variable {M : Model} {A : Around} {R : GenEnd} {Y : Protocol} {n : Nat} {s₀ s : Shared} {c : Code} {fs : List Frame} {env : Env} {K : Flow → Sem PySem.Fin} {J : Value → Sem PySem.Fin} {gd : Bool → Bool} {lv : List Value → List Value}
theorem seg_forIn {tg it : Expr} {body : List Stmt} {pos : Pos} (same : ∀ x, foldedSetIterable it env x = pure x)
    (h : wpAny M (A.over c fs) (eval it env) (fun x s1 => wpAny M (A.over c fs) (pyIter x) (fun itv s2 => ∀ p, Seg M A R Y n s₀ (.forLoop tg itv body [] env) (M.den (.forLoop tg itv body [] env))
        (.ret (fun r => ((match r with | .ok f => (.pure f : Sem Flow) | .error e => .raise e).onRaise (cameBack env)).wrap K J gd lv) none (gd false) (lv []) c p [] :: fs) s2) (fun x s2 => Seg M A R Y n s₀ c (J x) fs s2) s1) (fun x s2 => Seg M A R Y n s₀ c (J x) fs s2) s) :
    Seg M A R Y n s₀ c ((exec (.For tg it body [] pos) env).wrap K J gd lv) fs s := by
  rw [exec_For]
  refine seg_bind_wrap (wpAny_standAt ?_)
  refine seg_bind_wrap (wpAny_mono h (fun x s1 h1 => ?_) fun _ _ z => z)
  refine seg_bind_wrap (wpAny_of_eq (same x) ?_)
  refine seg_bind_wrap (wpAny_standAt ?_)
  refine seg_bind_wrap (wpAny_holding (wpAny_mono h1 (fun itv s2 h2 => ?_) fun _ _ z => z))
  exact seg_call h2
end
section
variable {prog : Program} {w : World} {A : Around} {R : GenEnd} {Y : Protocol} {n : Nat} {s₀ : Shared} {fs : List Frame} {s : Shared} {env : Env}
def oops (env : Env) (x : Value) : Sem PySem.Fin := (do noteFrame x env; theTreesLotGoes x : Sem Unit).wrap (fun _ => .raise x) .raise id id
theorem seg_forTurn {tg : Expr} {itv : Value} {body : List Stmt}
    (h : wpAny (model prog w) (A.over (.forLoop tg itv body [] env) fs) (pyNext itv) (fun r s1 => match r with
        | none => Seg (model prog w) A R Y n s₀ (.forLoop tg itv body [] env) (.pure (.again (.block [] env))) fs s1
        | some v => wpAny (model prog w) (A.over (.forLoop tg itv body [] env) fs) (letOwnedTupleGo tg itv v) (fun _ s2 => wpAny (model prog w) (A.over (.forLoop tg itv body [] env) fs) (assign tg env v) (fun _ s3 =>
            Seg (model prog w) A R Y n s₀ (.forLoop tg itv body [] env) ((execs body env).wrap (fun f => match f with
              | .next | .cont => .pure (.again (.forLoop tg itv body [] env))
              | .brk => .pure (.done .next)
              | .ret u => .pure (.done (.ret u))) (oops env) id id) fs s3)
            (fun x s3 => Seg (model prog w) A R Y n s₀ (.forLoop tg itv body [] env) (oops env x) fs s3) s2) (fun _ _ => False) s1) (fun _ _ => False) s) :
    Seg (model prog w) A R Y n s₀ (.forLoop tg itv body [] env) ((model prog w).den (.forLoop tg itv body [] env)) fs s := by
  show Seg _ A R Y n s₀ _ ((forTurn tg itv body [] env).onRaise (fun x => do noteFrame x env; theTreesLotGoes x)) fs s
  have e1 : (fun e => (do noteFrame e env; theTreesLotGoes e : Sem Unit).bind fun _ => (Sem.raise e : Sem PySem.Fin)) = oops env := by
    funext e
    rw [Sem.bind_eq_wrap]
    rfl
  rw [Sem.onRaise_eq_wrap, e1]
  unfold forTurn
  refine seg_bind_wrap (wpAny_standAt ?_)
  refine seg_bind_wrap (wpAny_onRaise (wpAny_mono h (fun r s1 h1 => ?_) fun _ _ z => z.elim))
  cases r with
  | none => exact h1
  | some v =>
    refine seg_bind_wrap (wpAny_mono h1 (fun _ s2 h2 => ?_) fun _ _ z => z.elim)
    refine seg_bind_wrap (wpAny_mono h2 (fun _ s3 h3 => ?_) fun _ _ z => z)
    rw [Sem.bind_eq_wrap', Sem.wrap_wrap]
    have e2 : (execs body env).wrap (fun f => ((match f with
        | .next | .cont => again (.forLoop tg itv body [] env)
        | .brk => pure (.done .next)
        | .ret v => pure (.done (.ret v))) : Sem PySem.Fin).wrap (fun a => .pure a) (oops env) id id) (fun e => (Sem.raise e : Sem PySem.Fin).wrap (fun a => .pure a) (oops env) id id) (fun x => id (id x)) (fun x => id (id x)) =
      (execs body env).wrap (fun f => match f with
              | .next | .cont => .pure (.again (.forLoop tg itv body [] env))
              | .brk => .pure (.done .next)
              | .ret u => .pure (.done (.ret u))) (oops env) id id := Sem.wrap_congr _ _ _ (fun f => by cases f <;> rfl) (fun e => rfl)
    first
      | exact (congrArg (fun z => Seg (model prog w) A R Y n s₀ (.forLoop tg itv body [] env) z fs s3) e2).mpr h3
      | (rw [← e2] at h3; exact h3)
end
end Vm
namespace Vm
open PySem PySem.Spec PyProof.Rows L2 GenW
/-- the reading of for in a generator -/
def tGFor (wi : TI) (g : TG) (tb : TGn) : TGn := fun W ys σ H => wi σ H fun J H1 => ∃ U : Nat → Nat → List V → L2.St → Hp → Prop, (∃ m, U 0 m ys σ H1) ∧ ∀ i m ys σ H, U i m ys σ H →
  (J.stop i H ∧ W.nx ys σ H) ∨ (J.go i H ∧ ∃ N : List V → L2.St → Hp → Prop, (∀ ys2 σ2 H2, N ys2 σ2 H2 → ∃ m2, m2 < m ∧ U (i + 1) m2 ys2 σ2 H2) ∧ ∀ x H2, J.yld i H x H2 → g x σ H2 fun σ3 H3 => tb { W with nx := N, ct := N, bk := W.nx } ys σ3 H3)
section
variable {X : Cx}
theorem Here.loop {D B : Addr} {ip : List (Addr × Obj)} {A : Around} {c c2 : Code} {fs : List Frame} {gd : Bool → Bool} {k : Result → Sem PySem.Fin} {l kp : List Value} {p : Pos} (g : Here X D B ip A c fs gd) (hw : c2.weight = 0) (hu : c2.cUnits = 0) :
    Here X D B ip A c2 (.ret k none (gd false) l c p kp :: fs) id where
  far := g.far
  ne := g.ne
  over := (over_loop hw hu).trans g.over
  split := by
    show (splitAtGen fs).map _ = none
    rw [g.split]
    rfl
  guard := by
    show (gd false || fs.any Frame.guarded) = false
    rw [g.gd, g.guard]
    rfl
  gd := rfl
theorem seg_back {D B : Addr} {ip : List (Addr × Obj)} {A : Around} {R : GenEnd} {c : Code} {fs : List Frame} {K : Flow → Sem PySem.Fin} {J : Value → Sem PySem.Fin} {gd : Bool → Bool} {lv : List Value → List Value} {W : GEnds} {n : Nat} {s₀ s : Shared} {e : Value}
    (g : Here X D B ip A c fs gd) (k : Then X D B ip A R c fs K J W) (h : cameBackBy (model X.prog X.w) X.A X.env X.xe e s) :
    Seg (model X.prog X.w) A R (Yld X D B) n s₀ c (((Sem.raise e : Sem Flow).onRaise (cameBack X.env)).wrap K J gd lv) fs s := by
  have e1 : ((Sem.raise e : Sem Flow).onRaise (cameBack X.env)) = (cameBack X.env e).wrap (fun _ => (Sem.raise e : Sem Flow)) .raise id id := by
    rw [← Sem.bind_eq_wrap]
    rfl
  rw [e1, Sem.wrap_wrap]
  refine seg_wrap ?_
  rw [g.over]
  exact wpAny_mono h (fun _ s2 hx => k.exc n s₀ e s2 hx) fun x s2 hx => k.exc n s₀ x s2 hx
theorem Run.less {D B : Addr} {ip more : List (Addr × Obj)} {ys : List V} {σ : L2.St} {H : Hp} {t0 t : Shared} (h : Run X D B (ip ++ more) ys σ H t0 t) : Run X D B ip ys σ H t0 t := by
  obtain ⟨got, c, oB, r, e, I⟩ := h
  exact ⟨got, c, oB, r, e, I.unpinned (pins := (D, lstObj got c) :: (B, oB) :: ip) (pl := more)⟩
theorem gt_for {tg iter : Expr} {body : List Stmt} {wi : TI} {g : TG} {tb : TGn} {pos : Pos} (hp : PassesOwn (model X.prog X.w) X.A X.env X.xe) (hc : X.calm = true) (hi : PI X tg iter wi) (hg : PG X tg g) (hb : GTs X body tb)
    (same : ∀ x, foldedSetIterable iter X.env x = pure x := by intro _; rfl) : GT X (.For tg iter body [] pos) (tGFor wi g tb) := by
  refine ⟨fun A D B ip R n ys s₀ c fs K J gd lv s σ H W h0 hn k hI ht => ?_⟩
  obtain ⟨got, cc, oB, r, eB, I⟩ := hI
  refine seg_forIn same ?_
  rw [h0.over]
  refine wpAny_mono (hi.run _ s σ H _ I ht) (fun v s1 h1 => wpAny_mono h1 (fun itv s2 h2 p => ?_) fun x s2 hx => k.exc _ s₀ x s2 hx) fun x s2 hx => k.exc _ s₀ x s2 hx
  obtain ⟨it, fp, tn, Jt, H2, rfl, I2, T, st2, f2, U, ⟨m0, w0⟩, turn⟩ := h2
  have bD : ∀ b ∈ fp, b ≠ D := fun b hb => ((f2 b hb).2.2.2.2.2 (D, lstObj got cc) (List.mem_append_right _ List.mem_cons_self)).symm
  have bB : ∀ b ∈ fp, b ≠ B := fun b hb => ((f2 b hb).2.2.2.2.2 (B, oB) (List.mem_append_right _ (List.mem_cons_of_mem _ List.mem_cons_self))).symm
  have bi : ∀ b ∈ fp, ∀ q ∈ X.pn ++ ip, q.1 ≠ b := fun b hb q hq => (f2 b hb).2.2.2.2.2 q (by
    rcases List.mem_append.mp hq with z | z
    · exact List.mem_append_left _ z
    · exact List.mem_append_right _ (List.mem_cons_of_mem _ (List.mem_cons_of_mem _ z)))
  have fpok : ∀ {H' : Hp} {g2 : Array Value} {c2 : Nat} {o2 : Obj}, (∀ b ∈ fp, H' b = none) → ∀ b ∈ fp, FpOk X ((D, lstObj g2 c2) :: (B, o2) :: ip) H' b := fun {H' g2 c2 o2} hz b hb => by
    obtain ⟨_, a1, a2, a3, a4, _⟩ := f2 b hb
    refine ⟨hz b hb, a1, a2, a3, a4, fun q hq => ?_⟩
    rcases List.mem_append.mp hq with z | z
    · exact bi b hb q (List.mem_append_left _ z)
    · rcases List.mem_cons.mp z with e | z
      · rw [e]
        exact (bD b hb).symm
      · rcases List.mem_cons.mp z with e | z
        · rw [e]
          exact (bB b hb).symm
        · exact bi b hb q (List.mem_append_right _ z)
  have gl := fun (kk : Result → Sem PySem.Fin) => h0.loop (k := kk) (c2 := .forLoop tg (.ref it) body [] X.env) (l := lv []) (kp := []) (p := p) rfl rfl
  have loop : ∀ (m i n : Nat) (ys : List V) (s₀ s : Shared) (σ : L2.St) (H : Hp), n + ys.length = sizeLine → U i m ys σ H → Run X D B ip ys σ H s₀ s → tn i s.heap → (∀ b ∈ fp, H b = none) →
      Seg (model X.prog X.w) A R (Yld X D B) n s₀ (.forLoop tg (.ref it) body [] X.env) ((model X.prog X.w).den (.forLoop tg (.ref it) body [] X.env))
        (.ret (fun r => ((match r with | .ok f => (.pure f : Sem Flow) | .error e => .raise e).onRaise (cameBack X.env)).wrap K J gd lv) none (gd false) (lv []) c p [] :: fs) s := by
    intro m
    induction m using Nat.strongRecOn with
    | ind m ih =>
      intro i n ys s₀ s σ H hn w hI st hz
      have ee : ∀ (n : Nat) (s₀ : Shared) (x : Value) (t : Shared), X.xe x t → Seg (model X.prog X.w) A R (Yld X D B) n s₀ (.forLoop tg (.ref it) body [] X.env) (oops X.env x)
          (.ret (fun r => ((match r with | .ok f => (.pure f : Sem Flow) | .error e => .raise e).onRaise (cameBack X.env)).wrap K J gd lv) none (gd false) (lv []) c p [] :: fs) t := fun n s₀ x t hx => by
        unfold oops
        refine seg_wrap ?_
        rw [(gl _).over]
        refine wpAny_bind (wpAny_mono (hp x t hx) (fun _ t2 hcb => wpAny_theTreesLotGoes ?_) fun y t2 hcb => ?_)
        · exact seg_leaf (.error x) (seg_back h0 k hcb)
        · exact seg_leaf (.error y) (seg_back h0 k hcb)
      refine seg_forTurn ?_
      rw [(gl _).over]
      obtain ⟨got, cc, oB, r, eB, I⟩ := hI
      rcases turn i m ys σ H w with ⟨stop, q⟩ | ⟨go, N, hN, step⟩
      · refine wpAny_mono (T.done X rfl rfl rfl hc i _ s σ H (fun _ _ => False) I (fpok hz) st stop) (fun r0 s4 ⟨hr, I4⟩ => ?_) fun _ _ z => z
        subst hr
        refine seg_again rfl ?_
        exact seg_leaf (.ok .next) (k.ok n ys s₀ s4 .next hn ⟨σ, H, ⟨got, cc, oB, r, eB, I4⟩, q⟩)
      · refine wpAny_mono (T.item X rfl rfl rfl hc i _ s σ H (fun _ _ => False) I (fpok hz) st go) (fun r0 s4 ⟨u, hr, h4⟩ => ?_) fun _ _ z => z
        subst hr
        refine wpAny_mono h4 (fun _ s5 ⟨x, H5, I5, r5, y5, st5, fr5⟩ => ?_) fun _ _ z => z
        have I5' := I5.pinned (fpok fr5) (T.obj _ _ st5)
        refine wpAny_mono (hg.run _ s5 σ H5 x u _ I5' r5 (step x H5 y5)) (fun _ s6 ⟨σ6, H6, I6, q6⟩ => ?_) fun x s6 hx => ee _ _ _ _ hx
        have far2 : Far X D B (ip ++ pinsAt fp s5.heap) := by
          obtain ⟨p1, p2, a1, a2⟩ := h0.far
          refine ⟨fun q hq => ?_, fun q hq => ?_, a1, a2⟩
          · rcases List.mem_append.mp hq with z | z
            · exact p1 q (List.mem_append_left _ z)
            · rcases List.mem_append.mp z with z | z
              · exact p1 q (List.mem_append_right _ z)
              · exact bD _ (of_pinsAt z).1
          · rcases List.mem_append.mp hq with z | z
            · exact p2 q (List.mem_append_left _ z)
            · rcases List.mem_append.mp z with z | z
              · exact p2 q (List.mem_append_right _ z)
              · exact bB _ (of_pinsAt z).1
        have here2 := gl (fun r => ((match r with | .ok f => (.pure f : Sem Flow) | .error e => .raise e).onRaise (cameBack X.env)).wrap K J gd lv)
        have again2 : ∀ {n2 : Nat} {ys2 : List V} {s02 s3 : Shared} {σ3 : L2.St} {H3 : Hp}, n2 + ys2.length = sizeLine → Run X D B (ip ++ pinsAt fp s5.heap) ys2 σ3 H3 s02 s3 → N ys2 σ3 H3 →
            Seg (model X.prog X.w) A R (Yld X D B) n2 s02 (.forLoop tg (.ref it) body [] X.env) (.pure (.again (.forLoop tg (.ref it) body [] X.env)))
              (.ret (fun r => ((match r with | .ok f => (.pure f : Sem Flow) | .error e => .raise e).onRaise (cameBack X.env)).wrap K J gd lv) none (gd false) (lv []) c p [] :: fs) s3 := fun {n2 ys2 s02 s3 σ3 H3} hn2 R3 n3 => by
          obtain ⟨m2, hm, w3⟩ := hN ys2 σ3 H3 n3
          have pin : ∀ b ∈ fp, ∀ o, s5.heap.get? b = some o → s3.heap.get? b = some o ∧ H3 b = none := fun b hb o e => by
            obtain ⟨_, _, _, _, _, J3⟩ := R3
            have z := J3.pin (b, o) (List.mem_append_right _ (List.mem_cons_of_mem _ (List.mem_cons_of_mem _ (List.mem_append_right _ (mem_pinsAt hb e)))))
            exact ⟨z.1, z.2.1⟩
          refine seg_again rfl (ih m2 hm (i + 1) n2 ys2 s02 s3 σ3 H3 hn2 w3 R3.less (T.keep _ _ _ st5 fun b hb o e => (pin b hb o e).1) fun b hb => ?_)
          obtain ⟨o, e, _⟩ := T.obj _ _ st5 b hb
          exact (pin b hb o e).2
        refine hb.run A D B (ip ++ pinsAt fp s5.heap) R n ys s₀ _ _ _ _ id id s6 σ6 H6 { W with nx := N, ct := N, bk := W.nx } ⟨far2, here2.ne, here2.over, here2.split, here2.guard, here2.gd⟩ hn
          ⟨fun n2 ys2 s02 s3 f hn2 hs => ?_, fun n2 s02 x s3 hx => ee n2 s02 x s3 hx⟩ ⟨got, cc, oB, r, eB, I6⟩ q6
        cases f with
        | next =>
          obtain ⟨σ3, H3, R3, n3⟩ := hs
          exact again2 hn2 R3 n3
        | cont =>
          obtain ⟨σ3, H3, R3, n3⟩ := hs
          exact again2 hn2 R3 n3
        | brk =>
          obtain ⟨σ3, H3, R3, n3⟩ := hs
          exact seg_leaf (.ok .next) (k.ok n2 ys2 s02 s3 .next hn2 ⟨σ3, H3, R3.less, n3⟩)
        | ret v =>
          obtain ⟨x3, σ3, H3, R3, r3, n3⟩ := hs
          exact seg_leaf (.ok (.ret v)) (k.ok n2 ys2 s02 s3 (.ret v) hn2 ⟨x3, σ3, H3, R3.less, r3, n3⟩)
  exact loop m0 0 n ys s₀ s2 σ H2 hn w0 ⟨got, cc, oB, r, eB, I2⟩ st2 fun b hb => (f2 b hb).1
end
end Vm
/-! a generator def that raises nothing, called: a generator that has not begun -/
namespace Vm
open PySem PySem.Spec PyProof.Rows L2 GenW
theorem noCX {P : Program} {w : World} {outer : List Env} {H : Hp} {s s2 : Shared} {e : Value} (h : CX P w outer H s (fun _ _ _ => False) e s2) : False := by
  obtain ⟨_, _, _, _, _, _, _, _, _, _, _, _, z⟩ := h
  exact z
/-- the run's end -/
def FinG (P : Program) (w : World) (outer : List Env) (H : Hp) (s : Shared) (D B : Addr) (Q : List V → Hp → Prop) (s₀ t : Shared) : Prop :=
  t.heap.get? B = s₀.heap.get? B ∧ ∃ H2 ys got c, t.os = s.os ∧ AllBare t.gens ∧ Un (frs outer) [] H H2 s.heap t.heap ∧ HOk P w H2 t.heap ∧ H2 D = none ∧ H2 B = none ∧ t.heap.get? D = some (lstObj got c) ∧ Vals ys got.toList ∧ ys.length ≤ sizeLine ∧ Q ys H2
def EndG (P : Program) (w : World) (outer : List Env) (H : Hp) (s : Shared) (D B : Addr) (Q : List V → Hp → Prop) : GenEnd := fun n s₀ r t =>
  ((r = .ok (.ret .none) ∨ r = .ok .next) ∧ FinG P w outer H s D B Q s₀ t) ∨ ∃ e, r = .error e ∧ False
/-- an item comes -/
def ItemG (s : Shared) (D B a : Addr) (g : Nat) : Protocol := fun n s₀ v t kap =>
  t.os = s.os ∧ AllBare t.gens ∧ t.heap.NoLimit ∧ t.heap.IsGen a g ∧ t.heap.get? B = s₀.heap.get? B ∧ (∃ (got : Array Value) (c : Nat), t.heap.get? D = some (lstObj got c) ∧ n + 1 + got.size = sizeLine) ∧ ∀ t2, Dozed D B v t t2 → kap (.send .none) t2
/-- not begun -/
def Born (P : Program) (w : World) (k : Nat) (outer : List Env) (H : Hp) (s : Shared) (Q : List V → Hp → Prop) (u : Value) (s1 : Shared) : Prop :=
  ∃ (a : Addr) (g : Nat) (c : Code), u = .ref a ∧ s.heap.objs.size ≤ a ∧ a < s1.heap.objs.size ∧ s1.heap.IsGen a g ∧ s1.gens[g]? = some (.fresh c) ∧ s1.os = s.os ∧ AllBare s1.gens ∧ s1.heap.NoLimit ∧ (∀ b o, s.heap.get? b = some o → s1.heap.get? b = some o) ∧
    ∀ (A : Around) (D B : Addr) (s2 : Shared), Room k A → A.frames = some outer → s1.heap.objs.size ≤ D → s1.heap.objs.size ≤ B → D ≠ B → (∀ b o, s1.heap.get? b = some o → s2.heap.get? b = some o) → (∃ c, s2.heap.get? D = some (lstObj #[] c)) → (∃ o, s2.heap.get? B = some o ∧ ∀ v, o.data ≠ .cell v) → s2.os = s.os → AllBare s2.gens →
      Seg (model P w) A (EndG P w outer H s D B Q) (ItemG s D B a g) sizeLine s2 c ((model P w).den c) [] s2
abbrev SpH := List V → Hp → (List V → Hp → Prop) → Prop
/-- a generator def's promise -/
structure HFn (P : Program) (w : World) (K : PySem.W.Frag) (mg : Str → Option Value) (base : Heap) (k : Nat) (f : Addr) (fd : FuncData) (ps : List Str) (sp : SpH) : Prop where
  len : ∀ vs H Q, sp vs H Q → vs.length = ps.length
  run : ∀ (A : Around) (outer : List Env) (s : Shared) (H : Hp) (args : Args) (us : List Value) (vs : List V) (Q : List V → Hp → Prop), Room k A → Env0 P w K mg base A outer s H → BindsTo s fd args (ps.zip us) → Vals vs us → sp vs H Q →
    codeAny (model P w) A (.call (.ref f) args) (fun r t => match r with | .ok (.ret u) => Born P w k outer H s Q u t | _ => False) s
abbrev gcx0 (P : Program) (w : World) (K : PySem.W.Frag) (mg : Str → Option Value) (base : Heap) (N : List Str) (qual : Str) (scope : Scope) (f : Addr) (cd : Value) (A : Around) (outer : List Env) (s : Shared) (H : Hp) (pn : List (Addr × Obj)) : Cx := gcxOf P w K mg base N qual scope f cd A outer s H (fun _ _ _ => False) pn
theorem hfn_of {P : Program} {w : World} {K : PySem.W.Frag} {mg : Str → Option Value} {base : Heap} {k : Nat} {f : Addr} {name qual : Str} {params : Arguments} {body : List Stmt} {scope : Scope} {dV kV doc pm cdv ct oc : Value} {an od : Option Addr}
    {osl : Array (Option Value)} {N ps : List Str} {sp : SpH} (lk : K.lookup f = some ⟨oc, od, .func (PySem.W.fnOf name qual params body scope dV kV doc pm an cdv ct), osl⟩) (hcd : PySem.W.codeIn K cdv qual = true) (S : GScope N ps scope)
    (len : ∀ vs H Q, sp vs H Q → vs.length = ps.length)
    (hbody : ∀ (A : Around) (outer : List Env) (s : Shared) (H : Hp) (vs : List V) (Q : List V → Hp → Prop) (pn : List (Addr × Obj)), Room k (A.deeper (envOfC qual scope s.heap.objs.size f cdv)) → sp vs H Q →
      ∃ t, GTs (gcx0 P w K mg base N qual scope f cdv A outer s H pn) body t ∧ t { nx := fun ys _ H2 => Q ys H2, rt := fun ys v H2 => v = .non ∧ Q ys H2 } [] (start N vs) H) :
    HFn P w K mg base (k + 1) f (PySem.W.fnOf name qual params body scope dV kV doc pm an cdv ct) ps sp := by
  refine ⟨len, fun A outer s H args us vs Q hr e0 hb r hsp => ?_⟩
  have hl := len _ _ _ hsp
  have KX : K.In s.heap := e0.mod.kin.keeps fun b o e => (e0.bs b o e).1
  have lim : s.heap.NoLimit := e0.mod.nolimit.keeps fun b o e => (e0.bs b o e).1
  have kinds : ∀ y ∈ ps.zip us, scope.names.lookup y.1 = some .local ∨ (scope.names.lookup y.1 = some .cell ∧ ((cellsFrom (s.heap.objs.size + 1) scope.names []).lookup y.1).isSome = true) := fun ⟨x, v⟩ hy => by
    rcases S.par x (List.of_mem_zip hy).1 with q | q
    · exact .inl q
    · exact .inr ⟨q, PySem.W.cellsFrom_some _ _ _ (.inl q)⟩
  refine codeAny_call_generator hr.depth (KX _ _ lk) rfl S.co S.gen rfl (PySem.W.codeRec_of KX hcd) (hb _ _ _ _ ?_)
  refine wpAny_newFunctionEnv_cells S.kind kinds fun env he s1 x => ?_
  subst he
  have lim1 : s1.heap.NoLimit := lim.keeps x.toInCall.keep
  refine ⟨lim1, ?_⟩
  obtain ⟨h1, tk, es1, hk1⟩ := x.done
  have os1 : s1.os = s.os := by rw [es1]
  have gen1 : s1.gens = s.gens := by rw [es1]
  have lt1 : s.heap.objs.size < s1.heap.objs.size := x.toInCall.ns.lt
  have sz1 : s.heap.objs.size ≤ s1.heap.objs.size := Nat.le_of_lt lt1
  have kp1 : ∀ b o, s.heap.get? b = some o → s1.heap.get? b = some o := x.toInCall.keep
  have main : ∀ (go : Obj) (nm qn : Value) (tk2 : Nat), go.cls = .type "generator" → go.data = .fields #[.int s1.gens.size 0, nm, qn] → go.slots = #[] → (∀ h : Heap, (h.push go).get? h.objs.size = some go) →
      Born P w (k + 1) outer H s Q (.ref s1.heap.objs.size) { s1 with gens := s1.gens.push (.fresh (.func body (envOfC qual scope s.heap.objs.size f cdv))), toks := tk2, heap := s1.heap.push go } := by
    intro go nm qn tk2 gc gd0 gs gp
    have isg : ∀ h : Heap, h.get? s1.heap.objs.size = some go → h.IsGen s1.heap.objs.size s1.gens.size := fun h e => ⟨go, nm, qn, e, gc, gd0, gs⟩
    have put : (s1.heap.push go).get? s1.heap.objs.size = some go := gp _
    refine ⟨s1.heap.objs.size, s1.gens.size, _, rfl, sz1, ?_, isg _ put, Array.getElem?_push_size .., os1, ?_, lim1.keeps fun b o e => Heap.get?_push_of_some _ e, fun b o e => Heap.get?_push_of_some _ (kp1 b o e), ?_⟩
    · show _ < (s1.heap.push _).objs.size
      rw [Heap.size_push]
      exact Nat.lt_succ_self _
    · exact AllBare.push (by rw [gen1]; exact e0.bare) rfl
    intro Aw D B s2 hrw hfr hDx hBx hne hk2 hDo hBo hos hba
    have e0w : Env0 P w K mg base Aw outer s H := ⟨hfr, e0.mod, e0.bs, e0.bsz, e0.funs, e0.frf, e0.hok, e0.bare⟩
    obtain ⟨t, ht, hq⟩ := hbody Aw outer s H vs Q [(s1.heap.objs.size, go)] (hrw.deeper _) hsp
    have I1 : Inv (gcx0 P w K mg base N qual scope f cdv Aw outer s H []) [] (start N vs) H s1 := inv_startG S hrw.hd e0w hl r x
    have kp2 : ∀ b o, s1.heap.get? b = some o → s2.heap.get? b = some o := fun b o e => hk2 b o (Heap.get?_push_of_some _ e)
    have I2 : Inv (gcx0 P w K mg base N qual scope f cdv Aw outer s H []) [] (start N vs) H s2 :=
      I1.call' (ch := []) (hos.trans os1.symm) (Un.kept kp2) (I1.hok.kept kp2) hba fun b z => by simp at z
    have above : ∀ {b : Addr}, (s1.heap.push go).objs.size ≤ b → s1.heap.objs.size < b := fun {b} h => by
      rw [Heap.size_push] at h
      exact h
    have ltD := above hDx
    have ltB := above hBx
    obtain ⟨cD, eD⟩ := hDo
    obtain ⟨oB, eB, nB⟩ := hBo
    have ea : s2.heap.get? s1.heap.objs.size = some go := hk2 s1.heap.objs.size go put
    have nc : ∀ v, go.data ≠ .cell v := fun v q => by
      rw [gd0] at q
      cases q
    have young : ∀ b, s1.heap.objs.size ≤ b → H b = none ∧ b ≠ s.heap.objs.size ∧ b ∉ frs outer ∧ s.heap.objs.size ≤ b ∧ ∀ y c, (cellsFrom (s.heap.objs.size + 1) scope.names []).lookup y = some c → c ≠ b := fun b hb => by
      refine ⟨I1.hok.fresh hb, Nat.ne_of_gt (Nat.lt_of_lt_of_le lt1 hb), I1.nofs hb, Nat.le_trans sz1 hb, fun y c e z => ?_⟩
      obtain ⟨v, ob, ho, _⟩ := I1.cell y c e
      have := Heap.lt_size ho
      rw [z] at this
      exact absurd (Nat.lt_of_lt_of_le this hb) (Nat.lt_irrefl _)
    have R0 : Run (gcx0 P w K mg base N qual scope f cdv Aw outer s H [(s1.heap.objs.size, go)]) D B [] [] (start N vs) H s2 s2 := by
      refine ⟨#[], cD, oB, .nil, eB, Inv.pinnedG I2 fun p hp => ?_⟩
      rcases List.mem_append.mp hp with z | z
      · rw [List.mem_singleton.mp z]
        obtain ⟨y1, y2, y3, _, _⟩ := young s1.heap.objs.size (Nat.le_refl _)
        exact ⟨ea, y1, y2, y3, nc⟩
      · rcases List.mem_cons.mp z with e | z
        · rw [e]
          obtain ⟨y1, y2, y3, _, _⟩ := young D (Nat.le_of_lt ltD)
          exact ⟨eD, y1, y2, y3, fun v q => by cases q⟩
        · rw [List.mem_singleton.mp z]
          obtain ⟨y1, y2, y3, _, _⟩ := young B (Nat.le_of_lt ltB)
          exact ⟨eB, y1, y2, y3, nB⟩
    have aw : ∀ {b : Addr}, s1.heap.objs.size < b → Apart (gcx0 P w K mg base N qual scope f cdv Aw outer s H [(s1.heap.objs.size, go)]) b := fun {b} lt => by
      obtain ⟨_, y2, _, y4, y5⟩ := young b (Nat.le_of_lt lt)
      exact ⟨y4, y2, y5⟩
    have far : Far (gcx0 P w K mg base N qual scope f cdv Aw outer s H [(s1.heap.objs.size, go)]) D B [] := by
      refine ⟨fun p hp => ?_, fun p hp => ?_, aw ltD, aw ltB⟩
      · rcases List.mem_append.mp hp with z | z
        · rw [List.mem_singleton.mp z]
          exact Nat.ne_of_lt ltD
        · exact absurd z (by simp)
      · rcases List.mem_append.mp hp with z | z
        · rw [List.mem_singleton.mp z]
          exact Nat.ne_of_lt ltB
        · exact absurd z (by simp)
    have own : ∀ {ip : List (Addr × Obj)} {ys : List V} {t0 t2 : Shared} {σ2 : L2.St} {H2 : Hp}, Run (gcx0 P w K mg base N qual scope f cdv Aw outer s H [(s1.heap.objs.size, go)]) D B ip ys σ2 H2 t0 t2 → t2.heap.IsGen s1.heap.objs.size s1.gens.size ∧ t2.heap.get? B = t0.heap.get? B ∧ H2 D = none ∧ H2 B = none ∧ ∃ got c, t2.heap.get? D = some (lstObj got c) ∧ Vals ys got.toList := fun {ip ys t0 t2 σ2 H2} hI => by
      obtain ⟨got, c, o2, rr, e2, J⟩ := hI
      have zD := J.pin (D, lstObj got c) (List.mem_append_right _ List.mem_cons_self)
      have zB := J.pin (B, o2) (List.mem_append_right _ (List.mem_cons_of_mem _ List.mem_cons_self))
      refine ⟨isg _ (J.pin (s1.heap.objs.size, go) (List.mem_append_left _ (List.mem_singleton.mpr rfl))).1, ?_, zD.2.1, zB.2.1, got, c, zD.1, rr⟩
      rw [e2]
      exact zB.1
    refine seg_func ?_
    refine seg_imp (R := Ret (gcx0 P w K mg base N qual scope f cdv Aw outer s H [(s1.heap.objs.size, go)]) D B (fun ys v H2 => v = .non ∧ Q ys H2) fun e t2 => CX P w outer H s (fun _ _ _ => False) e t2)
      (Y := Yld (gcx0 P w K mg base N qual scope f cdv Aw outer s H [(s1.heap.objs.size, go)]) D B) (fun n s₀ r t2 hR => ?_) (fun n s₀ v t2 kap kap2 hkk hY => ?_) sizeLine ?_
    · cases r with
      | error e => exact (noCX hR).elim
      | ok fl =>
        cases fl with
        | next => exact False.elim hR
        | brk => exact False.elim hR
        | cont => exact False.elim hR
        | ret u =>
          obtain ⟨ys, v, ip, σ2, H2, hn, hI, rv, ev, hQ⟩ := hR
          subst ev
          cases (show u = Value.none from rv)
          obtain ⟨_, a2, a3, b3, got, c, a4, a5⟩ := own hI
          obtain ⟨_, _, _, _, _, J⟩ := hI
          exact .inl ⟨.inl rfl, a2, H2, ys, got, c, J.os, J.bare, J.base, J.hok, a3, b3, a4, a5, by omega, hQ⟩
    · obtain ⟨ys, xx, ip, σ2, H2, hn, rv, hI, h3⟩ := hY
      obtain ⟨a1, a2, _, _, got, c, a4, a5⟩ := own hI
      obtain ⟨_, _, _, _, _, J⟩ := hI
      have hsz : got.size = ys.length := by
        have e1 := a5.length
        have e2 : got.toList.length = got.size := by simp
        omega
      exact ⟨J.os, J.bare, J.nolimit, a1, a2, ⟨got, c, a4, by rw [hsz]; exact hn⟩, fun t3 z => hkk _ _ (h3 t3 z)⟩
    · refine ht.run Aw D B [] _ sizeLine [] s2 _ [] _ _ id id s2 (start N vs) H _ ⟨far, hne, over_func, rfl, rfl, rfl⟩ (Nat.add_zero _) ⟨fun n ys s₀ t2 fl hn hs => ?_, fun n s₀ e t2 hx => ?_⟩ R0 hq
      · cases fl with
        | next =>
          obtain ⟨σ2, H2, hI, hQ⟩ := hs
          exact seg_end (.ok (.ret .none)) ⟨ys, .non, [], σ2, H2, hn, hI, rfl, rfl, hQ⟩
        | brk =>
          obtain ⟨_, _, _, q⟩ := hs
          exact False.elim q
        | cont =>
          obtain ⟨_, _, _, q⟩ := hs
          exact False.elim q
        | ret u =>
          obtain ⟨v, σ2, H2, hI, rv, ev, hQ⟩ := hs
          exact seg_end (.ok (.ret u)) ⟨ys, v, [], σ2, H2, hn, hI, rv, ev, hQ⟩
      · refine seg_wrap ?_
        rw [over_func]
        have hx2 : wpAny (model P w) (Aw.deeper (envOfC qual scope s.heap.objs.size f cdv)) (leaving (envOfC qual scope s.heap.objs.size f cdv) e) (fun _ t3 => CX P w outer H s (fun _ _ _ => False) e t3 ∧ ∀ p ∈ [(s1.heap.objs.size, go)], t3.heap.get? p.1 = some p.2) (fun _ _ => False) t2 := hx
        exact wpAny_mono hx2 (fun _ t3 q => (noCX q.1).elim) fun _ _ q => q.elim
  exact main _ _ _ _ rfl rfl rfl fun h => Heap.get?_push_size _ rfl
end Vm
/-! [x for x in g] -/
namespace Vm
open PySem PySem.Spec PyProof.Rows L2 GenW
/-- an expression that is a generator that has not begun -/
structure PH (X : Cx) (k : Nat) (e : Expr) (tg : TGen) : Prop where
  run : ∀ (pins : List (Addr × Obj)) (s : Shared) (σ : L2.St) (H : Hp) (cont : List V → Hp → Prop), Inv X pins σ H s → tg σ H cont → wpAny (model X.prog X.w) X.A (eval e X.env)
    (fun u s1 => ∃ H1 sc, Inv X pins σ H1 sc ∧ Born X.prog X.w k X.stack H1 sc cont u s1) X.xe s
def tMethH (C : Addr) (m : Str) (sp : SpH) (ta : TE) : TGen := fun σ H cont => ta σ H fun x H1 => ∃ a dx fs, x = .ref a ∧ H1 a = some (.ins C dx fs) ∧ fs.lookup m = none ∧ sp [x] H1 cont
section
variable {X : Cx} {k : Nat} {f C : Addr} {fd : FuncData} {ps : List Str} {sp : SpH} {m : Str} {pos apos : Pos} {o : Expr} {ta : TE}
theorem ph_meth0 {pl : Sem Bool} (he : PE X o ta) (c : Cls X.K C) (hm : Meth X.K C m f) (F : HFn X.prog X.w X.K X.mg X.base k f fd ps sp) (hr : Room k X.A) (hb : Binds X.K fd ps [])
    (ht : eval (.Call (.Attribute o m apos) [] [] pos) X.env = (do
      let ov ← eval o X.env
      standAt apos.atName
      let (g, first) ← holding [ov] (getMethod ov m pl)
      callWith pos g first (backTo pos (starEach [] X.env)) (backToKw pos (keywordEach [] X.env))) := by rfl) :
    PH X k (.Call (.Attribute o m apos) [] [] pos) (tMethH C m sp ta) := by
  refine ⟨fun pins s σ H cont I h => ?_⟩
  refine PySem.W.methodCall_KW (pl := pl) (thn (he.run pins s σ H _ I h) fun u s1 ⟨x, H1, I1, rx, a, dx, fs, ex, ea, l, q⟩ => ?_) ht
  subst ex
  obtain rfl : u = Value.ref a := rx
  refine getmeth_ok I1 ea c hm l ?_
  refine PySem.W.callWith_K0 (first := [.ref a]) I1.kIn hm.kp ?_
  have hl : ([Value.ref a] : List Value).length = ps.length := F.len _ _ _ q
  refine wpAny_call (codeAny_mono (F.run X.A X.stack s1 H1 ⟨[.ref a], []⟩ [.ref a] [.ref a] cont hr I1.env0 (by
    have := hb s1 [.ref a] I1.kIn (by simpa using hl)
    simpa using this) (.cons rfl .nil) q) fun r s2 hq => ?_)
  cases r with
  | error e => exact False.elim hq
  | ok fl =>
    cases fl with
    | ret u => exact ⟨H1, s1, I1, hq⟩
    | next => exact False.elim hq
    | brk => exact False.elim hq
    | cont => exact False.elim hq
end
/-- between two turns of the reader -/
def Poised (P : Program) (w : World) (A : Around) (outer : List Env) (H : Hp) (sc : Shared) (D B a : Addr) (g : Nat) (Q : List V → Hp → Prop) (n : Nat) (t : Shared) : Prop :=
  t.heap.IsGen a g ∧ t.heap.NoLimit ∧ (∃ mB, t.heap.Ns B mB) ∧ ∃ gs, t.gens[g]? = some gs ∧ gs.Goes (model P w) A.in1 (EndG P w outer H sc D B Q) (ItemG sc D B a g) n (.send .none) (t.setGen g .running)
theorem comp_drain {P : Program} {w : World} {A : Around} {outer : List Env} {H : Hp} {sc : Shared} {D B a : Addr} {g : Nat} {Q : List V → Hp → Prop} {R : Result → Shared → Prop} {x : Str} {p1 p2 pos : Pos} {iter : Expr} {scope : Scope} {ce : Env}
    (hh : A.handled = Option.none) (hd : A.depth < recursionLimit) (cl : ce.locals = B) (ck : ce.scope.kind = .function) (cx : ce.kindOf x = some .local) (hdb : (x == ("__debug__" : Str)) = false) (nDB : D ≠ B) (nDa : D ≠ a) (nBa : B ≠ a) (nDc : D ≠ cStatics) (nBc : B ≠ cStatics)
    (fin : ∀ s0 t t2, (∃ mB, s0.heap.Ns B mB) → FinG P w outer H sc D B Q s0 t → t2.os = t.os → AllBare t2.gens → (∀ b o, t.heap.get? b = some o → t2.heap.get? b = some o) → R (.ok .next) t2) (n : Nat) (s : Shared) (h : Poised P w A outer H sc D B a g Q n s) :
    codeAny (model P w) A (.compLoop (.ListComp (.Name x p1) [⟨.Name x p2, iter, [], 0⟩] scope pos) 0 (.ref a) (.ref D) ce) R s := by
  refine compLoop_any (Poised P w A outer H sc D B a g Q) (fun n s hR => ?_) n h
  obtain ⟨hg, hl, ⟨mB, hB⟩, gs, hgs, hgo⟩ := hR
  have hgl : g < s.gens.size := (Array.getElem?_eq_some_iff.mp hgs).1
  have frame : ∀ {t0 t : Shared}, t.heap.get? B = t0.heap.get? B → t0.heap.Ns B mB → t.heap.Ns B mB := fun {t0 t} e q => q.at' fun o eo => e.trans eo
  have cellB : ∀ {t : Shared} {m : Str → Option Value}, t.heap.Ns B m → ∃ o, t.heap.get? B = some o ∧ ∀ v, o.data ≠ .cell v := fun {t m} q => by
    obtain ⟨o, es, ep, ho, ed, _⟩ := q
    exact ⟨o, ho, fun v z => by rw [ed] at z; cases z⟩
  refine wpAny_gsz (n := g + 1) hgl (next_genG (A := A) (F := fun _ s0 t => FinG P w outer H sc D B Q s0 t) (Er := fun _ _ => False) hh hl hd hg hgs hgo (fun v t gs2 hbare hv => ?_) (fun t hp h2 hk => ?_) fun e t he => he.elim)
  · intro hsz
    obtain ⟨os1, hb1, hl1, hg1, eB, ⟨got, c, eD, hlen⟩, hk⟩ := hv
    have hB1 : t.heap.Ns B mB := frame (t0 := s) eB hB
    have keep1 : ∀ {h2 : Heap}, Heap.SameBut B t.heap h2 → ∀ b o, b ≠ B → t.heap.get? b = some o → h2.get? b = some o := fun {h2} z b o nb e => (z.2 b nb).trans e
    show wpAny _ A (letOwnedTupleGo (.Name x p2) (.ref a) v) _ _ _
    refine wpAny_pure ?_
    refine wpAny_assign_Name (wpAny_storeName_local (m := mB) cx (by rw [cl]; exact hB1) (fun h2 hn2 sb2 => ?_) (by rw [ck]; rfl))
    rw [cl] at hn2 sb2
    refine wpAny_tests_nil ?_
    rw [if_pos rfl]
    rw [PySem.eval_Name _ _ _ hdb]
    refine wpAny_bind (wpAny_standAt (wpAny_loadName_local (m := fun y => if y = x then some v else mB y) ck cx (by rw [cl]; exact hn2) (if_pos rfl) ?_))
    have eD2 : h2.get? D = some (lstObj got c) := keep1 sb2 D _ nDB eD
    refine append_at (hsz := by
      have : got.size ≤ sizeLine := by omega
      exact this) eD2 fun h3 sb3 eD3 => ?_
    have rest3 : ∀ b o, b ≠ D → b ≠ B → t.heap.get? b = some o → h3.get? b = some o := fun b o b1 b2 e => (sb3.2 b b1).trans (keep1 sb2 b o b2 e)
    have hB3 : h3.Ns B (fun y => if y = x then some v else mB y) := hn2.at' fun o e => (sb3.2 B (Ne.symm nDB)).trans e
    have doze : ∀ (gg : Array GenState) (tk : Nat), AllBare gg → Dozed D B v t { t with gens := gg, heap := h3, toks := tk } := fun gg tk hgg => by
      refine ⟨rfl, hgg, rest3, fun got2 c2 e2 => ?_, cellB (t := { t with gens := gg, heap := h3, toks := tk }) hB3⟩
      rw [eD] at e2
      cases e2
      exact ⟨_, eD3⟩
    cases n with
    | zero => exact (hk _ (doze t.gens 0 hb1)).elim
    | succ m =>
      have sz1 : g < t.gens.size := by
        have q : (t.setGen g gs2).gens.size = t.gens.size := setGen_size _ _ _
        have hsz2 : g + 1 ≤ (t.setGen g gs2).gens.size := hsz
        omega
      refine ⟨m, Nat.lt_succ_self m, ?_, ?_, ⟨_, hB3⟩, gs2, setGen_at sz1, ?_⟩
      · obtain ⟨o, nm, qn, ho, more⟩ := hg1
        exact ⟨o, nm, qn, rest3 a o (Ne.symm nDa) (Ne.symm nBa) ho, more⟩
      · obtain ⟨mc, hns, hnn⟩ := hl1
        exact ⟨mc, hns.at' fun o e => rest3 _ o (Ne.symm nDc) (Ne.symm nBc) e, hnn⟩
      · exact hk _ (doze _ _ (allBare_setGen (s := t.setGen g gs2) (allBare_setGen hb1 hbare) rfl))
  · intro hsz
    obtain ⟨eB, more⟩ := id hp
    have bare : AllBare t.gens := by
      obtain ⟨_, _, _, _, _, hb, _⟩ := more
      exact hb
    exact fin _ t _ ⟨mB, hB⟩ hp rfl (allBare_setGen bare rfl) hk
def tLcH (tg : TGen) : TE := fun σ H Q => tg σ H fun out H2 => ∀ p, H2 p = none → Q (.ref p) (upd H2 p (.lst out))
section
variable {X : Cx}
theorem pe_lcH {k : Nat} {x : Str} {p1 p2 pos : Pos} {iter : Expr} {scope : Scope} {tg : TGen} (h : PH X k iter tg) (hr : Room (k + 3) X.A) (hkind : scope.kind = .function) (loc : ∀ y ∈ scope.names, y.2 = .local ∧ scope.names.lookup y.1 = some .local) (hx : scope.names.lookup x = some .local)
    (same : ∀ v, foldedSetIterable iter X.env v = pure v := by intro _; rfl) (hdb : (x == ("__debug__" : Str)) = false := by decide) :
    PE X (.ListComp (.Name x p1) [⟨.Name x p2, iter, [], 0⟩] scope pos) (tLcH tg) := by
  refine ⟨fun pins s σ H Q I hq => ?_⟩
  rw [eval_ListComp]
  have nofree : ∀ y ∈ scope.names, y.2 = .free → ∃ c, X.env.cells.lookup y.1 = some c := fun y hy e => by
    rw [(loc y hy).1] at e
    cases e
  refine wpAny_comprehension_free (use := Option.none) rfl same (closure_ok nofree) hkind (fun y hy _ => (loc y hy).2) (thn (h.run pins s σ H _ I hq) fun u s1 h1 => ?_)
  obtain ⟨H1, sc, I1, a, g, c, rfl, ha1, ha2, hg, hgs, hos, hb, hl, kp, wake⟩ := h1
  refine wpAny_pyIter_gen hg ?_
  refine wpAny_newObj_type ?_ (by show 0 ≤ sizeLine; decide)
  generalize hD : s1.heap.objs.size = D
  have kD : ∀ b o, s1.heap.get? b = some o → (s1.heap.push { cls := .type "list", data := .seq ([] : List Value).toArray }).get? b = some o := fun b o e => Heap.get?_push_of_some _ e
  have eD0 : (s1.heap.push { cls := .type "list", data := .seq ([] : List Value).toArray }).get? D = some (lstObj #[] 0) := by
    rw [← hD]
    exact Heap.get?_push_size _ rfl
  have szD : (s1.heap.push { cls := .type "list", data := .seq ([] : List Value).toArray }).objs.size = D + 1 := by
    rw [Heap.size_push, hD]
  generalize s1.heap.push { cls := .type "list", data := .seq ([] : List Value).toArray } = hp1 at kD eD0 szD ⊢
  refine wpAny_newFunctionEnv (fun y hy e => by rw [(loc y hy).1] at e; cases e) (fun y hy => by cases hy) (fun h2 hns sb => ?_) hkind
  show codeAny _ _ (.compStart _ 0 (.ref a) (.ref D) _) (compPost (model X.prog X.w) X.A X.xe Option.none (EP X pins σ Q) (.ref D) hp1.objs.size) _
  replace hns : h2.Ns hp1.objs.size (fun _ => Option.none) := hns
  have nDB : D ≠ hp1.objs.size := by
    rw [szD]
    exact Nat.ne_of_lt (Nat.lt_succ_self D)
  have kB : ∀ b o, hp1.get? b = some o → h2.get? b = some o := fun b o e => by
    have ne : b ≠ hp1.objs.size := Nat.ne_of_lt (Heap.lt_size e)
    rw [sb.2 b ne]
    exact Heap.get?_push_of_some _ e
  have leB : s1.heap.objs.size ≤ hp1.objs.size := by
    rw [szD, hD]
    exact Nat.le_succ D
  have eD2 := kB _ _ eD0
  have kAll : ∀ b o, s1.heap.get? b = some o → h2.get? b = some o := fun b o e => kB _ _ (kD b o e)
  clear kB
  generalize hp1.objs.size = B at nDB leB hns ⊢
  have hnc : ∀ {b : Addr}, s1.heap.objs.size ≤ b → b ≠ cStatics := fun {b} lb e => by
    obtain ⟨_, q, _⟩ := id hl
    have := q.lt
    rw [← e] at this
    exact absurd (Nat.lt_of_lt_of_le this lb) (Nat.lt_irrefl _)
  have leD : s1.heap.objs.size ≤ D := Nat.le_of_eq hD
  have nDa : D ≠ a := Nat.ne_of_gt (Nat.lt_of_lt_of_le ha2 leD)
  have nBa : B ≠ a := Nat.ne_of_gt (Nat.lt_of_lt_of_le ha2 leB)
  have scD : sc.heap.objs.size ≤ D := Nat.le_trans (Nat.le_trans ha1 (Nat.le_of_lt ha2)) leD
  have scB : sc.heap.objs.size ≤ B := Nat.le_trans (Nat.le_trans ha1 (Nat.le_of_lt ha2)) leB
  have hr1 : Room k X.A.in1 := ⟨hr.hd, (by have := hr.dp; show X.A.depth + 3 * k + 5 < _; omega), (by have := hr.un; show X.A.units + 1 + 16 * k + 200 < _; omega)⟩
  have cellB : ∃ o, h2.get? B = some o ∧ ∀ v, o.data ≠ .cell v := by
    obtain ⟨o, es, ep, ho, ed, _⟩ := id hns
    exact ⟨o, ho, fun v z => by rw [ed] at z; cases z⟩
  have loop : ∀ (tk : Nat) (ce : Env), ce.locals = B → ce.scope = relabel scope X.env → codeAny (model X.prog X.w) X.A (.compLoop (.ListComp (.Name x p1) [⟨.Name x p2, iter, [], 0⟩] scope pos) 0 (.ref a) (.ref D) ce) (compPost (model X.prog X.w) X.A X.xe Option.none (EP X pins σ Q) (.ref D) B) { s1 with heap := h2, toks := tk } := fun tk ce cl cs => by
    refine comp_drain (P := X.prog) (w := X.w) (outer := X.stack) (H := H1) (sc := sc) (D := D) (B := B) (a := a) (g := g) (Q := fun out H2 => ∀ p, H2 p = Option.none → Q (.ref p) (upd H2 p (.lst out))) hr.hd (by have := hr.dp; show X.A.depth < _; omega) cl (by rw [cs]; exact hkind) (by show ce.scope.names.lookup x = _; rw [cs]; exact lookup_relabel_local hx) hdb nDB nDa nBa (hnc leD) (hnc leB)
      (fun s0 t t2 hB0 hF os2 bare2 keep2 => ?_) sizeLine _ ⟨hg.keeps kAll, hl.keeps kAll, ⟨_, hns⟩, _, hgs, rfl, ?_⟩
    · obtain ⟨mB, hB⟩ := hB0
      obtain ⟨eB, H2, ys, got, c2, e1, e2, un, hok, n1, n2, eD, vals, len, q⟩ := hF
      have I3 : Inv X pins σ (upd H2 D (.lst ys)) t2 := I1.drained scD len (keep2 _ _ eD) vals ExOk.nil (os2.trans e1) bare2 (un.trans (Un.kept keep2)) (hok.kept keep2) n1
      have nB : (upd H2 D (.lst ys)) B = Option.none := by
        rw [upd_ne (Ne.symm nDB)]
        exact n2
      obtain ⟨f0, f1, f2, f3, f4, f5⟩ := I1.fpOk (H' := upd H2 D (.lst ys)) scB nB
      refine ⟨mB, hB.at' fun o eo => keep2 _ _ (eB.trans eo), fun h4 sb4 => ?_⟩
      exact ⟨.ref D, upd H2 D (.lst ys), I3.turned (t' := t2.toks) (fun b o hb e => (sb4.2 b hb).trans e) f0 f1 f3 f4 f5, rfl, q D n1⟩
    · exact wake X.A.in1 D B _ hr1 I1.ok.frames leD leB nDB kAll ⟨0, eD2⟩ cellB hos (allBare_setGen (s := { s1 with heap := h2, toks := tk }) hb rfl)
  exact codeAny_compStart_list (loop _ _ rfl rfl) (wpAny_pyIter_gen (s := { s1 with heap := h2, toks := _ }) (hg.keeps kAll) (loop _ _ rfl rfl))
end
end Vm
/-! Store.walk -/
namespace Vm
open PySem PySem.Spec PyProof.Rows L2 GenW
abbrev sWalk : Stmt := inClass (top 39) 9
theorem gfor_tup {K : PySem.W.Frag} {a : Addr} {xs : List V} {g : TG} {tb : TGn} {W : GEnds} {ys : List V} {σ : L2.St} {H : Hp} (Pv : Nat → List V → L2.St → Hp → Prop) (h0 : Pv 0 ys σ H) (hl : ∀ i ys σ H, i ≤ xs.length → Pv i ys σ H → SqT K H a xs)
    (hs : ∀ i x ys σ H, xs[i]? = some x → Pv i ys σ H → g x σ H fun σ2 H2 => tb { W with nx := Pv (i + 1), ct := Pv (i + 1), bk := W.nx } ys σ2 H2) (hd : ∀ ys σ H, Pv xs.length ys σ H → W.nx ys σ H) :
    ∃ U : Nat → Nat → List V → L2.St → Hp → Prop, (∃ m, U 0 m ys σ H) ∧ ∀ i m ys σ H, U i m ys σ H →
      ((Itt K a).stop i H ∧ W.nx ys σ H) ∨ ((Itt K a).go i H ∧ ∃ N : List V → L2.St → Hp → Prop, (∀ ys2 σ2 H2, N ys2 σ2 H2 → ∃ m2, m2 < m ∧ U (i + 1) m2 ys2 σ2 H2) ∧ ∀ x H2, (Itt K a).yld i H x H2 → g x σ H2 fun σ3 H3 => tb { W with nx := N, ct := N, bk := W.nx } ys σ3 H3) := by
  refine ⟨fun i m ys σ H => m = xs.length - i ∧ i ≤ xs.length ∧ Pv i ys σ H, ⟨xs.length, by simp, Nat.zero_le _, h0⟩, ?_⟩
  rintro i m ys σ H ⟨rfl, hi, p⟩
  have q := hl i ys σ H hi p
  by_cases lt : i < xs.length
  · refine .inr ⟨⟨xs, xs[i], q, by simp [lt]⟩, Pv (i + 1), fun ys2 σ2 H2 p2 => ⟨xs.length - (i + 1), by omega, rfl, lt, p2⟩, fun x H2 y => ?_⟩
    obtain ⟨e, y⟩ := y
    subst e
    exact hs i x ys σ _ (y xs q) p
  · have e : i = xs.length := by omega
    subst e
    exact .inl ⟨⟨xs, q, Nat.le_refl _⟩, hd ys σ H p⟩
/-- a pair of a name and a row, made here -/
def PrAt (H : Hp) (v : V) (p : Str × Row) : Prop := ∃ (a : Addr) (o : Obj) (w : V), v = .ref a ∧ H a = some (.frz o (.tup [.str p.1, w])) ∧ o.dict = none ∧ RwAt H w p.2
abbrev PrsAt (H : Hp) : List V → List (Str × Row) → Prop := PySem.W.EachIs (PrAt H)
theorem PrAt.keep {H H' : Hp} {v : V} {p : Str × Row} (h : PrAt H v p) (k : Fz H H') : PrAt H' v p := let ⟨a, o, w, e, h1, d, r⟩ := h; ⟨a, o, w, e, k _ _ _ h1, d, r.keep k⟩
theorem PrsAt.keep {H H' : Hp} {vs : List V} {ps : List (Str × Row)} (h : PrsAt H vs ps) (k : Fz H H') : PrsAt H' vs ps := h.mono fun _ _ z => z.keep k
/-- all rows with their tables' names, by the order of the tables -/
def pairsOf : List Ti → List (List Row) → List (Str × Row)
  | t :: ts, rs :: rss => rs.map (fun r => (t.nm, r)) ++ pairsOf ts rss
  | _, _ => []
theorem pairs_snoc : ∀ {ts : List Ti} {rss : List (List Row)} {i : Nat} {t : Ti} {rs : List Row}, ts[i]? = some t → rss[i]? = some rs → pairsOf (ts.take (i + 1)) (rss.take (i + 1)) = pairsOf (ts.take i) (rss.take i) ++ rs.map (fun r => (t.nm, r))
  | [], _, _, _, _, e, _ => nomatch e
  | _ :: _, [], _, _, _, _, e => nomatch e
  | t :: ts, rs :: rss, 0, t', rs', e, e' => by
    obtain rfl := Option.some.inj e
    obtain rfl := Option.some.inj e'
    show rs.map (fun r => (t.nm, r)) ++ pairsOf (ts.take 0) (rss.take 0) = [] ++ rs.map (fun r => (t.nm, r))
    show rs.map (fun r => (t.nm, r)) ++ [] = _
    simp
  | t :: ts, rs :: rss, i + 1, t', rs', e, e' => by
    show rs.map (fun r => (t.nm, r)) ++ pairsOf (ts.take (i + 1)) (rss.take (i + 1)) = (rs.map (fun r => (t.nm, r)) ++ pairsOf (ts.take i) (rss.take i)) ++ rs'.map (fun r => (t'.nm, r))
    rw [pairs_snoc (ts := ts) (rss := rss) e e', List.append_assoc]
def spWalk (K : PySem.W.Frag) (C CT : Addr) : SpH := fun vs H Q => ∃ (st dx tp rd : Addr) (ws : List V) (ts : List Ti) (qs : List Addr) (rss : List (List Row)), vs = [.ref st] ∧ StAt K H C CT st dx tp rd ws ts qs rss ∧ (∀ rs ∈ rss, rs.length ≤ 100) ∧
  ∀ H' ys, Same H H' → PrsAt H' ys (pairsOf ts rss) → Q ys H'
section
variable {P : Program} {w : World} {K : PySem.W.Frag} {mg : Str → Option Value} {base : Heap} {fNm fNms fCols fKey C CT CI fTO fRO fIC fIP : Addr}
theorem scWalk : GScope ["self", "table", "row"] ["self"] (defScope sWalk) := ⟨rfl, rfl, rfl, by decide +kernel, rfl, by decide +kernel, by decide +kernel⟩
theorem ok_walk {f : Addr} {fd : FuncData} (F : Fun K "walk" "Store.walk" sWalk f fd) (S : TxtS K mg C fTO fRO fIC fIP) (UT : TxtT K mg CT CI fCols fKey) : HFn P w K mg base 2 f fd ["self"] (spWalk K C CT) := by
  obtain ⟨oc, od, kV, doc, pm, an, cdv, ct, osl, rfl, lk, hcd⟩ := F.ex
  refine hfn_of (k := 1) lk hcd scWalk (fun vs H Q h => ?_) (fun A outer s H vs Q pn hr h => ?_)
  · obtain ⟨st, dx, tp, rd, ws, ts, qs, rss, rfl, _⟩ := h
    rfl
  · obtain ⟨st, dx, tp, rd, ws, ts, qs, rss, rfl, sa, few, k⟩ := h
    have hu : (A.deeper (envOfC "Store.walk" (defScope sWalk) s.heap.objs.size f cdv)).units + 1 < cLine := by
      have := hr.units
      omega
    refine ⟨_, gts_cons (gt_for owns_gcx rfl (pi_tup (pe_fld (pv 0) rfl)) (pg_name (i := 1) scWalk.nd rfl (Or.inl rfl))
      (gts_cons (gt_for owns_gcx rfl (pi_tup (pe_dget hu (pe_fld (pv 0) rfl) (pe_fld (pv 1) rfl) (fun _ _ => rfl))) (pg_name (i := 2) scWalk.nd rfl (Or.inl rfl))
        (gts_cons (gt_yield (pe_tupF (pa_cons (pe_fld (pv 1) rfl) (pa_cons (pv 2) pa_nil)))) gts_nil)) gts_nil)) gts_nil, ?_⟩
    have big : sizeLine > 1000 := by decide
    have lw : ws.length = ts.length := sa.tb.length
    have lrs : rss.length = ts.length := by rw [← sa.rw.length, sa.lq]
    refine ⟨_, rfl, st, C, dx, _, _, rfl, sa.hs, S.cl, S.nT, rfl, tp, rfl, ⟨_, sa.ht⟩, ?_⟩
    refine gfor_tup (K := K) (a := tp) (xs := ws) (fun i ys σ H' => ∃ v1 v2 : Option V, σ = [some (.ref st), v1, v2] ∧ Same H H' ∧ PrsAt H' ys (pairsOf (ts.take i) (rss.take i)) ∧ ys.length ≤ 100 * i) ⟨none, none, rfl, Same.refl H, .nil, Nat.le_refl _⟩
      (fun i ys σ H' _ ⟨_, _, _, s', _⟩ => sameT s' sa.ht) ?_ ?_
    · rintro i y ys σ H2 hi ⟨v1, v2, rfl, s2, pr, ly⟩
      obtain ⟨ti, et, a, rfl, tb⟩ := each_get sa.tb hi
      obtain ⟨dx2, a2, a3, a4, ha, _⟩ := (tb.same s2).ex
      have lt : i < ts.length := (List.getElem?_eq_some_iff.mp et).1
      have ltq : i < qs.length := by
        rw [sa.lq]
        exact lt
      have eq := List.getElem?_eq_getElem ltq
      obtain ⟨rs, er, ob, xs, hq, hd, hrs⟩ := each_get sa.rw eq
      have i3 : i < 3 := Nat.lt_of_lt_of_le lt sa.few
      have fr := few rs (List.mem_of_getElem? er)
      have lx : xs.length = rs.length := hrs.length
      have g := DGet.k (k := (Sum.inr ti.nm : Key)) (s2 _ _ sa.hd)
      rw [kvs_find sa.nd et eq] at g
      refine ⟨_, rfl, st, C, dx, _, _, rfl, s2 _ _ sa.hs, S.cl, S.nR, rfl, _, rfl, a, CT, dx2, _, _, rfl, ha, UT.cl, UT.n1, rfl, rd, .ref qs[i], rfl, g, qs[i], rfl, ⟨xs, .inl (.inr ⟨ob, s2 _ _ hq⟩)⟩, ?_⟩
      refine gfor_tup (K := K) (a := qs[i]) (xs := xs) (fun j ys' σ H' => ∃ v2 : Option V, σ = [some (.ref st), some (.ref a), v2] ∧ Same H H' ∧ PrsAt H' ys' (pairsOf (ts.take i) (rss.take i) ++ (rs.take j).map fun r => (ti.nm, r)) ∧ ys'.length ≤ 100 * i + j) ⟨_, rfl, s2, ?_, ly⟩
        (fun j ys' σ H' _ ⟨_, _, s', _⟩ => .inl (.inr ⟨ob, s' _ _ hq⟩)) ?_ ?_
      · show PrsAt H2 ys (pairsOf (ts.take i) (rss.take i) ++ [])
        rw [List.append_nil]
        exact pr
      · rintro j y2 ys2 σ H3 hj ⟨v2', rfl, s3, pr3, ly3⟩
        have ltj : j < xs.length := (List.getElem?_eq_some_iff.mp hj).1
        obtain ⟨r, er2, hr2⟩ := each_get hrs hj
        obtain ⟨dx3, a5, a6, a7, ha3, _⟩ := (tb.same s3).ex
        refine ⟨by omega, _, rfl, a, CT, dx3, _, _, rfl, ha3, UT.cl, UT.n1, rfl, _, rfl, by show 2 ≤ sizeLine; omega, fun p o hp ho => ?_⟩
        have s4 := same_upd (o := .frz o (.tup [.str ti.nm, y2])) hp
        refine ⟨_, rfl, s3.trans s4, ?_, by rw [List.length_append]; show ys2.length + 1 ≤ _; omega⟩
        have tk : (rs.take (j + 1)).map (fun r => (ti.nm, r)) = (rs.take j).map (fun r => (ti.nm, r)) ++ [(ti.nm, r)] := by
          rw [List.take_add_one, er2]
          simp
        rw [tk, ← List.append_assoc]
        exact each_append (pr3.keep (Fz.of_same s4)) (.cons ⟨p, o, y2, rfl, upd_same, ho, hr2.keep (Fz.of_same (s3.trans s4))⟩ .nil)
      · rintro ys2 σ H3 ⟨v2', rfl, s3, pr3, ly3⟩
        refine ⟨_, _, rfl, s3, ?_, by omega⟩
        rw [pairs_snoc et er]
        rw [lx, List.take_length] at pr3
        exact pr3
    · rintro ys σ H2 ⟨v1, v2, rfl, s2, pr, ly⟩
      rw [lw, List.take_length, ← lrs, List.take_length] at pr
      exact k H2 ys s2 pr
end
end Vm
/-! len(o), x in o of an own instance -/
namespace Vm
open PySem PySem.Spec PyProof.Rows L2
section
variable {X : Cx} {CX : CXT} {k : Nat} {f C : Addr} {sp : Sp} {E : XK}
/-- len(o), by the own def -/
def rLenOwn (C : Addr) (sp : Sp) (E : XK) : List V → Hp → VK → Prop := fun xs H Q => ∃ (a dx : Addr) (fs : List (Str × V)), xs = [V.ref a] ∧ H a = some (.ins C dx fs) ∧ sp [.ref a] H (fun z H' => ∃ n : Nat, z = .int n ∧ n < 1000000 ∧ Q (.int n) H') E
theorem call_lenOwn (hs : PySem.W.findIn X.K (.ref C) "__len__" = some (some (.ref f))) (hf : PySem.W.typeIn X.K (.ref f) = some (.type "function")) (F : FnR X.prog X.w X.K X.mg X.base CX k f sp) (hr : Room (k + 1) X.A) (hx : Passes CX X E) :
    CallR X (.builtin "len") (rLenOwn C sp E) := by
  intro pins s σ H xs us Q I r h
  obtain ⟨a, dx, fs, rfl, ha, q⟩ := h
  obtain ⟨u, rfl, ru⟩ := r.one
  cases (show u = Value.ref a from ru)
  obtain ⟨mA, J0, _⟩ := ins_get I.hok ha
  obtain ⟨od, J, _⟩ := J0.look
  have hr1 : Room k X.A.in1 := Room.in1 hr
  refine Calls.call_function_entry PySem.kind_len PySem.plain_len PySem.entry_len (PySem.args_len1 _) ?_
  unfold Builtin.«len»
  refine wpAny_bind (m := oneArg "len" _) (wpAny_pure ?_)
  refine wpAny_bind (m := callSpecial? (.ref a) (Str.ofString "__len__")) (PySem.W.special_fn I.kIn J hs hf (wpAny_mono (wpAny_call (SlX.run_at (us := [.ref a]) (ws := [.ref a]) F hr1 I.env0.in1 hx I (.cons rfl .nil) q)) (fun w s' z => ?_) fun _ _ x => x))
  obtain ⟨z', H', I', rz, n, en, few, qz⟩ := z
  subst en
  obtain ⟨t, e⟩ := (show ∃ t, w = Value.int (n : Int) t from rz)
  subst e
  refine wpAny_bind (wpAny_holding (wpAny_pure ?_))
  refine wpAny_bind (wpAny_letGo ?_)
  have c0 : ¬ ((n : Int) < 0) := by omega
  have c1 : ¬ ((n : Int) ≥ 2 ^ 63) := by omega
  show wpAny _ _ (if (n : Int) < 0 then _ else _) _ _ _
  rw [if_neg c0]
  show wpAny _ _ (if (n : Int) ≥ 2 ^ 63 then _ else _) _ _ _
  rw [if_neg c1]
  exact wpAny_bind (wpAny_mkInt (wpAny_pure ⟨_, rfl, .int n, H', I'.tok _, ⟨_, rfl⟩, qz⟩))
/-- x in o, x not in o by the own def -/
def rInOwn (C : Addr) (sp : Sp) (E : XK) (neg : Bool) : R2 := fun x y H Q => ∃ (a dx : Addr) (fs : List (Str × V)), y = V.ref a ∧ H a = some (.ins C dx fs) ∧ sp [.ref a, x] H (fun z H' => ∃ b : Bool, z = .bl b ∧ Q (.bl (if neg then !b else b)) H') E
theorem in_own (hs : PySem.W.findIn X.K (.ref C) "__contains__" = some (some (.ref f))) (hf : PySem.W.typeIn X.K (.ref f) = some (.type "function")) (F : FnR X.prog X.w X.K X.mg X.base CX k f sp) (hr : Room k X.A) (hx : Passes CX X E)
    {pins : List (Addr × Obj)} {s : Shared} {σ : L2.St} {H : Hp} {x : V} {a dx : Addr} {fs : List (Str × V)} {v : Value} {Q : Bool → Shared → Prop} (I : Inv X pins σ H s) (rx : RelV x v) (ha : H a = some (.ins C dx fs))
    (q : sp [.ref a, x] H (fun z H' => ∃ b : Bool, z = .bl b ∧ ∀ s', Inv X pins σ H' s' → Q b s') E) : wpAny (model X.prog X.w) X.A (contains (.ref a) v) Q X.xe s := by
  obtain ⟨mA, J0, _⟩ := ins_get I.hok ha
  obtain ⟨od, J, _⟩ := J0.look
  unfold contains
  refine wpAny_holding ?_
  have e0 : stdlibNamesSay? (.ref a) v = none := by cases v <;> rfl
  rw [e0]
  refine wpAny_bind (m := specialOf (.ref a) (Str.ofString "__contains__")) (wpAny_bind (J.type.here ((PySem.W.looks_findIn I.kIn hs).here ?_)))
  show wpAny _ _ (if (some (Value.ref f) == some Value.none) = true then _ else _) _ _ _
  rw [if_neg (by intro z; cases z)]
  refine wpAny_bind (m := callSpecialUnlessNone? (.ref a) (Str.ofString "__contains__") [v] _) ?_
  unfold callSpecialUnlessNone?
  refine wpAny_bind (m := specialOf (.ref a) (Str.ofString "__contains__")) (wpAny_bind (J.type.here ((PySem.W.looks_findIn I.kIn hs).here ?_)))
  refine wpAny_holding (wpAny_bind ((PySem.W.bind_fn I.kIn _ hf).here ?_))
  show wpAny _ _ (if (Value.ref f == Value.none) = true then _ else _) _ _ _
  rw [if_neg (by intro z; cases z)]
  refine wpAny_bind (wpAny_mono (wpAny_call (SlX.run_at (us := [.ref a, v]) (ws := [.ref a, x]) F hr I.env0 hx I (.cons rfl (.cons rx .nil)) q)) (fun w s' z => ?_) fun _ _ x => x)
  obtain ⟨z', H', I', rz, b, eb, qz⟩ := z
  subst eb
  cases (show w = Value.bool b from rz)
  exact wpAny_pure (wpAny_truthy_bool (qz s' I'))
theorem op_inOwn (hs : PySem.W.findIn X.K (.ref C) "__contains__" = some (some (.ref f))) (hf : PySem.W.typeIn X.K (.ref f) = some (.type "function")) (F : FnR X.prog X.w X.K X.mg X.base CX k f sp) (hr : Room k X.A) (hx : Passes CX X E)
    (mono : ∀ {vs H Q Q'}, (∀ z H', Q z H' → Q' z H') → sp vs H Q E → sp vs H Q' E) : OpR X (compareOp .In) (rInOwn C sp E false) := by
  intro pins s σ H x y v u Q I rx ry h
  obtain ⟨a, dx, fs, rfl, ha, q⟩ := h
  cases (show u = Value.ref a from ry)
  refine wpAny_bind (in_own hs hf F hr hx I rx ha (mono (fun z H' ⟨b, eb, qb⟩ => ?_) q))
  exact ⟨b, eb, fun s' I' => wpAny_pure ⟨.bl b, H', I', rfl, qb⟩⟩
theorem op_notInOwn (hs : PySem.W.findIn X.K (.ref C) "__contains__" = some (some (.ref f))) (hf : PySem.W.typeIn X.K (.ref f) = some (.type "function")) (F : FnR X.prog X.w X.K X.mg X.base CX k f sp) (hr : Room k X.A) (hx : Passes CX X E)
    (mono : ∀ {vs H Q Q'}, (∀ z H', Q z H' → Q' z H') → sp vs H Q E → sp vs H Q' E) : OpR X (compareOp .NotIn) (rInOwn C sp E true) := by
  intro pins s σ H x y v u Q I rx ry h
  obtain ⟨a, dx, fs, rfl, ha, q⟩ := h
  cases (show u = Value.ref a from ry)
  refine wpAny_bind (in_own hs hf F hr hx I rx ha (mono (fun z H' ⟨b, eb, qb⟩ => ?_) q))
  exact ⟨b, eb, fun s' I' => wpAny_pure ⟨.bl (!b), H', I', rfl, qb⟩⟩
end
end Vm
/-! Store.__len__, Store.__contains__, Store.tables -/
namespace Vm
open PySem L2
abbrev sSLen : Stmt := inClass (top 39) 13
abbrev sSHas : Stmt := inClass (top 39) 14
abbrev sSTables : Stmt := inClass (top 39) 2
/-- a walk over a tuple, its turns read by Bd -/
theorem wk_tup {K : PySem.W.Frag} {a : Addr} {xs : List V} {Bd : V → Hp → (Hp → Prop) → Prop} {Qd : Hp → Prop} {H : Hp} (Pv : Nat → Hp → Prop) (h0 : Pv 0 H) (hl : ∀ i H, i ≤ xs.length → Pv i H → SqT K H a xs) (hs : ∀ i x H, xs[i]? = some x → Pv i H → Bd x H (Pv (i + 1))) (hd : ∀ H, Pv xs.length H → Qd H) :
    ∃ W : Nat → Nat → Hp → Prop, (∃ m, W 0 m H) ∧ ∀ i m H, W i m H → ((Itt K a).stop i H ∧ Qd H) ∨ ((Itt K a).go i H ∧ ∃ N : Hp → Prop, (∀ H2, N H2 → ∃ m2, m2 < m ∧ W (i + 1) m2 H2) ∧ ∀ x H2, (Itt K a).yld i H x H2 → Bd x H2 N) := by
  refine ⟨fun i m H => m = xs.length - i ∧ i ≤ xs.length ∧ Pv i H, ⟨xs.length, by simp, Nat.zero_le _, h0⟩, ?_⟩
  rintro i m H ⟨rfl, hi, p⟩
  have q := hl i H hi p
  by_cases lt : i < xs.length
  · refine .inr ⟨⟨xs, xs[i], q, by simp [lt]⟩, Pv (i + 1), fun H2 p2 => ⟨xs.length - (i + 1), by omega, rfl, lt, p2⟩, fun x H2 y => ?_⟩
    obtain ⟨e, y⟩ := y
    subst e
    exact hs i x _ (y xs q) p
  · have e : i = xs.length := by omega
    subst e
    exact .inl ⟨⟨xs, q, Nat.le_refl _⟩, hd H p⟩
theorem pairs_len : ∀ {ts : List Ti} {rss : List (List Row)}, rss.length = ts.length → (pairsOf ts rss).length = countOf rss
  | [], [], _ => rfl
  | [], _ :: _, e => nomatch e
  | _ :: _, [], e => nomatch e
  | t :: ts, rs :: rss, e => by
    have ih := pairs_len (ts := ts) (rss := rss) (Nat.succ.inj e)
    show (rs.map (fun r => (t.nm, r)) ++ pairsOf ts rss).length = ((rs :: rss).map List.length).sum
    rw [List.length_append, List.length_map, ih, List.map_cons, List.sum_cons]
    rfl
def spSLen (K : PySem.W.Frag) (C CT : Addr) : Sp := fun vs H Q _ => ∃ (st dx tp rd : Addr) (ws : List V) (ts : List Ti) (qs : List Addr) (rss : List (List Row)), vs = [.ref st] ∧ StAt K H C CT st dx tp rd ws ts qs rss ∧ (∀ rs ∈ rss, rs.length ≤ 100) ∧
  ∀ H', Same H H' → Q (.int (countOf rss : Nat)) H'
section
variable {P : Program} {w : World} {K : PySem.W.Frag} {mg : Str → Option Value} {base : Heap} {fNm fNms fCols fKey C CT CI fTO fRO fIC fIP : Addr}
theorem scSLen : FnScope ["self", "table", "row"] ["self"] (defScope sSLen) := ⟨rfl, rfl, rfl, by decide +kernel, rfl, by decide +kernel, by decide +kernel⟩
theorem scSHas : FnScope ["self", "thing", "table"] ["self", "thing"] (defScope sSHas) := ⟨rfl, rfl, rfl, by decide +kernel, rfl, by decide +kernel, by decide +kernel⟩
theorem scSTables : FnScope ["self"] ["self"] (defScope sSTables) := ⟨rfl, rfl, rfl, by decide +kernel, rfl, by decide +kernel, by decide +kernel⟩
theorem ok_slen {f : Addr} {fd : FuncData} (F : Fun K "__len__" "Store.__len__" sSLen f fd) (S : TxtS K mg C fTO fRO fIC fIP) (UT : TxtT K mg CT CI fCols fKey) (T : TxtP K mg fNm fNms) : FnOk P w K mg base CX0 1 f fd ["self"] (spSLen K C CT) := by
  refine F.ok scSLen (fun vs H Q E h => ?_) (fun cdv A outer s H vs Q E hr h => ?_)
  · obtain ⟨st, dx, tp, rd, ws, ts, qs, rss, rfl, _⟩ := h
    rfl
  · obtain ⟨st, dx, tp, rd, ws, ts, qs, rss, rfl, sa, few, k⟩ := h
    have hu : (A.deeper (PyProof.Rows.envOfC "Store.__len__" (defScope sSLen) s.heap.objs.size f cdv)).units + 1 < cLine := by
      have := hr.units
      omega
    refine ⟨_, pss_one (ps_ret (pe_callB call_len_seq (by rfl) T.len (by decide +kernel) (pa_cons (pe_lc2 (own := [("table", 1), ("row", 2)]) (vs1 := [2]) (g := gName 1) (tt := tYes) (wi1 := iTup K (tDGet (tFld K (tVar 0) "_rows") (tFld K (tVar 1) "name"))) (g1 := gName 2) (tt1 := tYes) (te := tVar 2) rfl scSLen.nd (pi_tup (pe_fld (pv 0) rfl))
        (blkOk_by (N := ["self", "table", "row"]) (sc := defScope sSLen) (by decide +kernel)) (by decide) (fun _ _ _ _ _ => pg_name (i := 1) scSLen.nd rfl (Or.inl rfl)) (fun _ _ _ _ _ => pts_nil)
        (fun _ _ _ _ _ => by exact (pi_tup (pe_dget hu (pe_fld (pv 0) rfl) (pe_fld (pv 1) rfl) (fun _ _ => rfl)))) (fun _ _ _ _ _ => pg_name (i := 2) scSLen.nd rfl (Or.inl rfl)) (fun _ _ _ _ _ => pts_nil) (fun _ _ _ _ _ => by exact (pv 2))) pa_nil))), ?_⟩
    have big : sizeLine > 1000 := by decide
    have lw : ws.length = ts.length := sa.tb.length
    have lrs : rss.length = ts.length := by rw [← sa.rw.length, sa.lq]
    refine ⟨_, rfl, st, C, dx, _, _, rfl, sa.hs, S.cl, S.nT, rfl, tp, rfl, ⟨_, sa.ht⟩, fun D hD => ?_⟩
    have part : ∀ {G : Hp}, Same H G → True := fun _ => trivial
    refine wk_tup (K := K) (a := tp) (xs := ws) (fun i H' => (∀ b o, H b = some o → H' b = some o) ∧ ∃ zs : List V, H' D = some (.lst zs) ∧ zs.length = countOf (rss.take i) ∧ zs.length ≤ 100 * i) ⟨same_upd hD, [], upd_same, rfl, Nat.le_refl _⟩ (fun i H' _ z => sameT z.1 sa.ht) ?_ ?_
    · rintro i y H2 hi ⟨s2, zs, e2, lz, lz2⟩
      refine ⟨rfl, ?_⟩
      dsimp only [tYes]
      rw [if_pos rfl]
      obtain ⟨ti, et, a, rfl, tb⟩ := each_get sa.tb hi
      obtain ⟨dx2, a2, a3, a4, ha, _⟩ := (tb.same s2).ex
      have lt : i < ts.length := (List.getElem?_eq_some_iff.mp et).1
      have ltq : i < qs.length := by
        rw [sa.lq]
        exact lt
      have eq := List.getElem?_eq_getElem ltq
      obtain ⟨rs, er, ob, xs, hq, hd, hrs⟩ := each_get sa.rw eq
      have i3 : i < 3 := Nat.lt_of_lt_of_le lt sa.few
      have fr := few rs (List.mem_of_getElem? er)
      have lx : xs.length = rs.length := hrs.length
      have g := DGet.k (k := (Sum.inr ti.nm : Key)) (s2 _ _ sa.hd)
      rw [kvs_find sa.nd et eq] at g
      refine ⟨_, rfl, st, C, dx, _, _, rfl, s2 _ _ sa.hs, S.cl, S.nR, rfl, _, rfl, a, CT, dx2, _, _, rfl, ha, UT.cl, UT.n1, rfl, rd, .ref qs[i], rfl, g, qs[i], rfl, ⟨xs, .inl (.inr ⟨ob, s2 _ _ hq⟩)⟩, ?_⟩
      refine wk_tup (K := K) (a := qs[i]) (xs := xs) (fun j H' => (∀ b o, H b = some o → H' b = some o) ∧ ∃ zs2 : List V, H' D = some (.lst zs2) ∧ zs2.length = zs.length + j) ⟨s2, zs, e2, rfl⟩ (fun j H' _ z => .inl (.inr ⟨ob, z.1 _ _ hq⟩)) ?_ ?_
      · rintro j y2 H3 hj ⟨s3, zs2, e3, l3⟩
        have ltj : j < xs.length := (List.getElem?_eq_some_iff.mp hj).1
        refine ⟨rfl, ?_⟩
        dsimp only [tYes]
        rw [if_pos rfl]
        refine ⟨_, rfl, zs2, e3, by omega, fun b u e => ?_, zs2 ++ [y2], upd_same, by rw [List.length_append, l3]; rfl⟩
        rw [upd_ne (ne_of_none e hD)]
        exact s3 b u e
      · rintro H3 ⟨s3, zs2, e3, l3⟩
        refine ⟨s3, zs2, e3, ?_, by omega⟩
        have : countOf (rss.take (i + 1)) = countOf (rss.take i) + rs.length := by
          unfold countOf
          rw [List.take_add_one, er, List.map_append, List.sum_append]
          simp
        rw [this, l3, lz, lx]
    · rintro H2 ⟨s2, zs, e2, lz, lz2⟩
      rw [lw, ← lrs, List.take_length] at lz
      refine ⟨D, zs, rfl, .inl (SqL.of e2), ?_⟩
      rw [lz]
      exact k H2 s2
end
/-- whether the pair is there -/
def hasL (ts : List Ti) (rss : List (List Row)) : List Tr → Bool
  | [nm, r] => (match firstAt ts nm with
    | some i => (match ts[i]?, rss[i]? with
      | some ti, some rs => isRow ti.ss.length ti.zs.length r && decide (toRow r ∈ rs)
      | _, _ => false)
    | none => false)
  | _ => false
def hasT (ts : List Ti) (rss : List (List Row)) : Tr → Bool
  | .tup us => hasL ts rss us
  | _ => false
def spSHas (K : PySem.W.Frag) (C CT : Addr) : Sp := fun vs H Q _ => ∃ (st dx tp rd : Addr) (ws : List V) (ts : List Ti) (qs : List Addr) (rss : List (List Row)) (v : V) (t : Tr) (n : Nat) (bs : List Addr), vs = [.ref st, v] ∧ StAt K H C CT st dx tp rd ws ts qs rss ∧ (∀ t ∈ ts, t.ok) ∧ Dt K H v t n bs ∧ t.w ≤ 10000 ∧
  ∀ H', Same H H' → Q (.bl (hasT ts rss t)) H'
section
variable {P : Program} {w : World} {K : PySem.W.Frag} {mg : Str → Option Value} {base : Heap} {fNm fNms fCols fKey C CT CI fTO fRO fIC fIP fTN fR : Addr}
theorem ok_shas {f : Addr} {fd fdN fdR : FuncData} (F : Fun K "__contains__" "Store.__contains__" sSHas f fd) (S : TxtS K mg C fTO fRO fIC fIP) (UT : TxtT K mg CT CI fCols fKey) (T : TxtP K mg fNm fNms)
    (cN : Calls K mg "table_named" fTN) (GN : FnOk P w K mg base CX0 1 fTN fdN ["name", "tables"] (spNamed K CT)) (bN : Binds K fdN ["name", "tables"] [])
    (mR : Meth K CT "is_row" fR) (GR : FnOk P w K mg base CX0 2 fR fdR ["self", "thing"] (spRow K CT)) (bR : Binds K fdR ["self", "thing"] []) : FnOk P w K mg base CX0 3 f fd ["self", "thing"] (spSHas K C CT) := by
  refine F.ok scSHas (fun vs H Q E h => ?_) (fun cdv A outer s H vs Q E hr h => ?_)
  · obtain ⟨st, dx, tp, rd, ws, ts, qs, rss, v, t, n, bs, rfl, _⟩ := h
    rfl
  · obtain ⟨st, dx, tp, rd, ws, ts, qs, rss, v, t, n, bs, rfl, sa, okt, d, tw, k⟩ := h
    have hr1 : Room 1 _ := hr.mono (by decide)
    have hu : (A.deeper (PyProof.Rows.envOfC "Store.__contains__" (defScope sSHas) s.heap.objs.size f cdv)).units + 8 < cLine := by
      have := hr.units
      omega
    have hu1 : (A.deeper (PyProof.Rows.envOfC "Store.__contains__" (defScope sSHas) s.heap.objs.size f cdv)).units + 1 < cLine := by omega
    refine ⟨_, pss_cons (ps_if (PW.pt (pw_or (pt_not (pt_val (pe_callB call_isi (by rfl) T.isi (by decide +kernel) (pa_cons (pv 1) (pa_cons (pe_bltn (v := .ty "tuple") (by rfl) T.tuple (by decide +kernel) rfl) pa_nil)))))
          (pw_or1 (pt_cmpR op_ne (pe_callB call_len_seq (by rfl) T.len (by decide +kernel) (pa_cons (pv 1) pa_nil)) pe_int (nomark _))))) (pss_one (ps_ret pe_bl)) pss_nil)
      (pss_cons (ps_set (i := 2) scSHas.nd rfl (Or.inl rfl) (pe_call GN hr1 rfl cN.g cN.k bN .nil pass0 (pa_cons (pe_ix ix_tup (pv 1) pe_int (fun _ _ => rfl)) (pa_cons (pe_fld (pv 0) rfl) pa_nil))))
      (pss_one (ps_ret (pe_and (pe_cmpR op_notN (pv 2) pe_non (nomark _)) (pe_and (pe_meth (pv 2) UT.cl mR GR hr bR .nil pass0 (pa_cons (pe_ix ix_tup (pv 1) pe_int (fun _ _ => rfl)) pa_nil))
        (pe_one (pe_cmpR (op_inR hu) (pe_ix ix_tup (pv 1) pe_int (fun _ _ => rfl)) (pe_dget hu1 (pe_fld (pv 0) rfl) (pe_fld (pv 2) rfl) (fun _ _ => rfl)) (by rfl)))))))), ?_⟩
    have big : sizeLine > 20000 := by decide
    have no : hasT ts rss t = false → ∀ H', Same H H' → Q (.bl false) H' := fun z H' s' => by
      rw [← z]
      exact k H' s'
    refine ⟨_, rfl, v, _, _, _, isTup t, rfl, .ty _, d.ty, kit_tup t, _, rfl, ?_⟩
    cases ht : isTup t with
    | false =>
      refine iteT (iteT (no ?_ H (Same.refl H)))
      cases t <;> first | rfl | cases ht
    | true =>
      obtain ⟨b, xs, us, m, cs, rfl, rfl, _, hb, r, _⟩ := d.tupOf ht
      have hl := r.length
      refine iteF ?_
      refine ⟨_, rfl, b, xs, rfl, .inr hb, rfl, _, rfl, ?_⟩
      by_cases two : (xs.length : Int) = 2
      · have e2 : decide (V.int ((xs.length : Nat) : Int) = V.int 2) = true := by
          rw [two]
          rfl
        rw [e2]
        refine iteF ?_
        have l2 : xs.length = 2 := by omega
        obtain ⟨x0, x1, rfl⟩ : ∃ x0 x1, xs = [x0, x1] := by
          clear r hl hb two e2 d k no tw ht
          match xs, l2 with
          | [x0, x1], _ => exact ⟨x0, x1, rfl⟩
        obtain ⟨u0, u1, rfl⟩ : ∃ u0 u1, us = [u0, u1] := by
          rw [l2] at hl
          clear r hb two e2 d k no tw ht
          match us, hl.symm with
          | [u0, u1], _ => exact ⟨u0, u1, rfl⟩
        cases r with
        | cons d0 r =>
        cases r with
        | cons d1 r =>
        refine ⟨_, rfl, b, _, 0, x0, rfl, rfl, hb, rfl, _, rfl, st, C, dx, _, _, rfl, sa.hs, S.cl, S.nT, rfl, x0, u0, m, _, tp, ws, ts, rfl, d0, sa.ht, sa.tb, fun i w H2 fi hw s2 => ?_, fun fi H2 s2 => ?_⟩
        · obtain ⟨ti, et, a, rfl, tb⟩ := each_get sa.tb hw
          have lt : i < ts.length := (List.getElem?_eq_some_iff.mp et).1
          have ltq : i < qs.length := by
            rw [sa.lq]
            exact lt
          have eq := List.getElem?_eq_getElem ltq
          obtain ⟨rs, er, ob, ys, hq, hd, hrs⟩ := each_get sa.rw eq
          have tb2 := tb.same s2
          obtain ⟨dx2, a2, a3, a4, ha, _⟩ := tb2.ex
          have has : hasT ts rss (.tup [u0, u1]) = (isRow ti.ss.length ti.zs.length u1 && decide (toRow u1 ∈ rs)) := by
            show (match firstAt ts u0 with | some i => _ | none => _) = _
            rw [fi]
            show (match ts[i]?, rss[i]? with | some ti, some rs => _ | _, _ => _) = _
            rw [et, er]
          rw [has] at k
          have d1' := d1.keep (H' := H2) fun b _ o e => s2 b o e
          refine ⟨_, rfl, rfl, true, rfl, ?_⟩
          rw [if_pos rfl]
          refine ⟨_, rfl, a, dx2, _, rfl, ha, rfl, _, rfl, b, _, 1, x1, rfl, rfl, sameT s2 hb, rfl, a, ti.nm, ti.ss, ti.zs, ti.ks, x1, u1, m, _, rfl, tb2, d1', fun H3 s3 => ⟨isRow ti.ss.length ti.zs.length u1, rfl, ?_⟩⟩
          have s23 := s2.trans s3
          cases er1 : isRow ti.ss.length ti.zs.length u1 with
          | false =>
            rw [er1] at k
            exact iteF (k H3 s23)
          | true =>
            rw [er1] at k
            obtain ⟨r, hr1, ro, rfl⟩ := d1.row (okt ti (List.mem_of_getElem? et)) er1
            obtain ⟨dx3, a5, a6, a7, ha3, _⟩ := (tb2.same s3).ex
            have g := DGet.k (k := (Sum.inr ti.nm : Key)) (s23 _ _ sa.hd)
            rw [kvs_find sa.nd et eq] at g
            refine iteT ⟨_, rfl, b, _, 1, x1, rfl, rfl, sameT s23 hb, rfl, _, rfl, st, C, dx, _, _, rfl, s23 _ _ sa.hs, S.cl, S.nR, rfl, _, rfl, a, CT, dx3, _, _, rfl, ha3, UT.cl, UT.n1, rfl, rd, .ref qs[i], rfl, g, ?_⟩
            refine ⟨r, qs[i], ys, rs, hr1.keep (Fz.of_same s23), rfl, .inl (.inl (.inr ⟨ob, s23 _ _ hq⟩)), RowsAt.keep (Fz.of_same s23) hrs, ?_⟩
            have := k H3 s23
            rw [toRow_rowT, Bool.true_and] at this
            exact this
        · have has : hasT ts rss (.tup [u0, u1]) = false := by
            show (match firstAt ts u0 with | some i => _ | none => _) = _
            rw [fi]
          refine ⟨_, rfl, rfl, false, rfl, ?_⟩
          exact iteF (no has H2 s2)
      · have e2 : decide (V.int ((xs.length : Nat) : Int) = V.int 2) = false := decide_eq_false fun z => two (V.int.inj z)
        rw [e2]
        refine iteT (no ?_ H (Same.refl H))
        show hasL ts rss us = false
        have : us.length ≠ 2 := by omega
        match us, this with
        | [], _ => rfl
        | [_], _ => rfl
        | [_, _], h => exact absurd rfl h
        | _ :: _ :: _ :: _, _ => rfl
end
end Vm
/-! the law's rows go with the store's -/
namespace Vm
open PySem L2
theorem any_perm {α : Type} {p : α → Bool} {l m : List α} (h : l.Perm m) : l.any p = m.any p := by
  rw [Bool.eq_iff_iff, List.any_eq_true, List.any_eq_true]
  exact ⟨fun ⟨x, a, b⟩ => ⟨x, h.mem_iff.mp a, b⟩, fun ⟨x, a, b⟩ => ⟨x, h.mem_iff.mpr a, b⟩⟩
theorem poss_perm {ti : Ti} {kd : Str} {us rs qs : List Row} (h : rs.Perm qs) : possR ti kd us rs = possR ti kd us qs := by
  have e1 : ∀ r : Row, decide (r ∈ rs) = decide (r ∈ qs) := fun r => decide_eq_decide.mpr h.mem_iff
  have e2 : ∀ r : Row, (leftR kd us rs).any (clashR ti r) = (leftR kd us qs).any (clashR ti r) := fun r => any_perm (h.filter _)
  unfold possR
  simp only [e1, e2]
theorem pos_sort (ts : List Ti) (rss : List (List Row)) (t : Tr) : posT ts (rss.map sortR) t = posT ts rss t := by
  cases t with
  | tup us =>
    show posL ts (rss.map sortR) us = posL ts rss us
    match us with
    | [] => rfl
    | [a] => cases a <;> rfl
    | a :: nm :: us =>
      cases a with
      | str kd =>
        unfold posL
        dsimp only
        cases firstAt ts nm with
        | none => rfl
        | some i =>
          dsimp only
          rw [List.getElem?_map]
          cases ts[i]? with
          | none => rfl
          | some ti =>
            cases rss[i]? with
            | none => rfl
            | some rs => exact poss_perm (sortR_perm rs)
      | _ => rfl
  | _ => rfl
theorem RkFit.fit {N : Nat} {ts : List Ti} {rss : List (List Row)} (h : RkFit N ts rss) (g : ∀ t ∈ ts, t.ok) : Fit N ts rss := fun i ti rs e1 e2 => ⟨g ti (List.mem_of_getElem? e1), fun r m => ((h i ti rs e1 e2).1 r m).ok, (h i ti rs e1 e2).2⟩
theorem RkFit.sort {N : Nat} {ts : List Ti} {rss : List (List Row)} (h : RkFit N ts rss) : RkFit N ts (rss.map sortR) := fun i ti rs e1 e2 => by
  rw [List.getElem?_map] at e2
  cases q : rss[i]? with
  | none => rw [q] at e2; cases e2
  | some rs0 =>
    rw [q] at e2
    obtain rfl := Option.some.inj e2
    obtain ⟨a, b⟩ := h i ti rs0 e1 q
    exact ⟨fun r m => a r ((sortR_perm rs0).mem_iff.mp m), by rw [(sortR_perm rs0).length_eq]; exact b⟩
theorem follow_perm {kd : Str} {us rs : List Row} (hl : lenV kd = .int ((us.length + 2 : Nat) : Int)) (nd : rs.Nodup) : (followR kd us rs).Perm (leftR kd us (sortR rs) ++ putR kd us) := by
  have ef : ∀ r : Row, (fun o : Row => !decide (o ∈ [r])) = fun o => o != r := fun r => funext fun o => by
    rw [Bool.eq_iff_iff]
    simp
  rcases lenV_cases hl with ⟨e, ln⟩ | ⟨e, ln⟩ | ⟨e, ln⟩ <;> subst e
  · obtain ⟨r, rfl⟩ : ∃ r, us = [r] := List.length_eq_one_iff.mp ln
    have e1 : followR delS [r] rs = rs.erase r := by
      unfold followR
      rw [if_neg del_ins, if_pos rfl]
      rfl
    have e2 : leftR delS [r] (sortR rs) = (sortR rs).filter fun o => o != r := by
      unfold leftR takenR
      rw [if_neg del_ins]
      exact congrArg (fun f => (sortR rs).filter f) (ef r)
    have e3 : putR delS [r] = [] := by
      unfold putR
      rw [if_neg del_ins]
      rfl
    rw [e1, e2, e3, List.append_nil, nd.erase_eq_filter]
    exact ((sortR_perm rs).filter _).symm
  · obtain ⟨r, rfl⟩ : ∃ r, us = [r] := List.length_eq_one_iff.mp ln
    have e1 : followR insS [r] rs = rs ++ [r] := by
      unfold followR
      rw [if_pos rfl]
    have e2 : leftR insS [r] (sortR rs) = sortR rs := by
      unfold leftR takenR
      rw [if_pos rfl]
      simp
    have e3 : putR insS [r] = [r] := by
      unfold putR
      rw [if_pos rfl]
    rw [e1, e2, e3]
    exact (sortR_perm rs).symm.append_right _
  · obtain ⟨r, o, rfl⟩ := two_of ln
    have e1 : followR repS [r, o] rs = rs.erase r ++ [o] := by
      unfold followR
      rw [if_neg rep_ins, if_neg rep_del]
      rfl
    have e2 : leftR repS [r, o] (sortR rs) = (sortR rs).filter fun q => q != r := by
      unfold leftR takenR
      rw [if_neg rep_ins]
      exact congrArg (fun f => (sortR rs).filter f) (ef r)
    have e3 : putR repS [r, o] = [o] := by
      unfold putR
      rw [if_neg rep_ins]
      rfl
    rw [e1, e2, e3, nd.erase_eq_filter]
    exact ((sortR_perm rs).filter _).symm.append_right _
theorem follow_after {kd : Str} {us rs : List Row} (hl : lenV kd = .int ((us.length + 2 : Nat) : Int)) (nd : rs.Nodup) : sortR (followR kd us rs) = afterR kd us (sortR rs) := sortR_eq (follow_perm hl nd)
theorem nd_snoc {α : Type} {xs : List α} {x : α} (h : xs.Nodup) (n : x ∉ xs) : (xs ++ [x]).Nodup := by
  rw [List.nodup_append]
  exact ⟨h, by simp, fun a ha b hb e => n (by rw [List.mem_singleton.mp hb] at e; rw [← e]; exact ha)⟩
theorem follow_nd {ti : Ti} {kd : Str} {us rs : List Row} (hl : lenV kd = .int ((us.length + 2 : Nat) : Int)) (nd : rs.Nodup) (po : possR ti kd us rs = true) : (followR kd us rs).Nodup := by
  rcases lenV_cases hl with ⟨e, ln⟩ | ⟨e, ln⟩ | ⟨e, ln⟩ <;> subst e
  · unfold followR
    rw [if_neg del_ins, if_pos rfl]
    exact nd.erase _
  · obtain ⟨r, rfl⟩ : ∃ r, us = [r] := List.length_eq_one_iff.mp ln
    rw [poss_ins, Bool.and_eq_true] at po
    unfold followR
    rw [if_pos rfl]
    refine nd_snoc nd fun m => ?_
    rw [decide_eq_true m] at po
    exact nomatch po.1
  · obtain ⟨r, o, rfl⟩ := two_of ln
    rw [poss_rep, Bool.and_eq_true, Bool.and_eq_true] at po
    unfold followR
    rw [if_neg rep_ins, if_neg rep_del]
    refine nd_snoc (nd.erase _) fun m => ?_
    have := po.1.2
    rw [decide_eq_true (List.mem_of_mem_erase m)] at this
    exact nomatch this
theorem follow_mem {kd : Str} {us rs : List Row} {r : Row} (hl : lenV kd = .int ((us.length + 2 : Nat) : Int)) (m : r ∈ followR kd us rs) : r ∈ us ∨ r ∈ rs := by
  unfold followR at m
  split at m
  · exact (List.mem_append.mp m).symm
  · split at m
    · exact .inr (List.mem_of_mem_erase m)
    · rcases List.mem_append.mp m with m | m
      · exact .inr (List.mem_of_mem_erase m)
      · exact .inl (List.mem_of_mem_drop m)
theorem follow_len {kd : Str} {us rs : List Row} (hl : lenV kd = .int ((us.length + 2 : Nat) : Int)) : (followR kd us rs).length ≤ rs.length + 1 := by
  have l1 : ∀ r : Row, (rs.erase r).length ≤ rs.length := fun r => List.length_erase_le
  rcases lenV_cases hl with ⟨e, ln⟩ | ⟨e, ln⟩ | ⟨e, ln⟩ <;> subst e <;> unfold followR
  · rw [if_neg del_ins, if_pos rfl]
    have := l1 (us.getD 0 [])
    omega
  · rw [if_pos rfl, List.length_append]
    omega
  · rw [if_neg rep_ins, if_neg rep_del, List.length_append, List.length_drop]
    have := l1 (us.getD 0 [])
    omega
/-- all of the law's rows differ -/
def Nds (rss : List (List Row)) : Prop := ∀ rs ∈ rss, rs.Nodup
/-- one change, in the law and in the store -/
theorem both_step {N : Nat} {ts : List Ti} {rss : List (List Row)} {kd : Str} {i : Nat} {ti : Ti} {us rs : List Row} (fit : RkFit N ts rss) (nds : Nds rss) (nd : (ts.map Ti.nm).Nodup) (et : ts[i]? = some ti) (er : rss[i]? = some rs) (rk : ∀ r ∈ us, Rk ti r)
    (hl : lenV kd = .int ((us.length + 2 : Nat) : Int)) (po : posT ts rss (.tup (deedL kd ti.nm us)) = possR ti kd us rs) :
    stepsT ts (rss.map sortR) [.tup (deedL kd ti.nm us)] = (if possR ti kd us rs = true then rss.set i (followR kd us rs) else rss).map sortR ∧ RkFit (N + 1) ts (if possR ti kd us rs = true then rss.set i (followR kd us rs) else rss) ∧ Nds (if possR ti kd us rs = true then rss.set i (followR kd us rs) else rss) := by
  have fi := first_nm nd et
  have ps := pos_sort ts rss (.tup (deedL kd ti.nm us))
  rw [po] at ps
  cases e : possR ti kd us rs with
  | false =>
    rw [e] at ps
    rw [if_neg Bool.false_ne_true]
    refine ⟨step_no ps, fun j tj rj e1 e2 => ?_, nds⟩
    obtain ⟨a, b⟩ := fit j tj rj e1 e2
    exact ⟨a, Nat.le_succ_of_le b⟩
  | true =>
    rw [e] at ps
    rw [if_pos rfl]
    refine ⟨?_, fun j tj rj e1 e2 => ?_, fun r m => ?_⟩
    · have er2 : (rss.map sortR)[i]? = some (sortR rs) := by
        rw [List.getElem?_map, er]
        rfl
      show stepT ts (rss.map sortR) (.tup (deedL kd ti.nm us)) = _
      have st : stepT ts (rss.map sortR) (.tup (deedL kd ti.nm us)) = (rss.map sortR).set i (afterR kd us (sortR rs)) := step_is (us := us) rfl fi er2 ps
      rw [st, List.map_set, follow_after hl (nds rs (List.mem_of_getElem? er))]
    · rw [List.getElem?_set] at e2
      split at e2
      · rename_i q
        subst q
        split at e2
        · obtain rfl := Option.some.inj e2
          rw [et] at e1
          obtain rfl := Option.some.inj e1
          obtain ⟨a, b⟩ := fit i ti rs et er
          refine ⟨fun r m => ?_, Nat.le_trans (follow_len hl) (by omega)⟩
          rcases follow_mem hl m with m | m
          · exact rk r m
          · exact a r m
        · cases e2
      · obtain ⟨a, b⟩ := fit j tj rj e1 e2
        exact ⟨a, Nat.le_succ_of_le b⟩
    · rcases List.mem_or_eq_of_mem_set m with m | m
      · exact nds r m
      · rw [m]
        exact follow_nd hl (nds rs (List.mem_of_getElem? er)) e
/-- a change of the tables, that the law made -/
theorem deed_chg {ts : List Ti} {rss : List (List Row)} {kd : Str} {i : Nat} {ti : Ti} {us rs : List Row} (nd : (ts.map Ti.nm).Nodup) (et : ts[i]? = some ti) (er : rss[i]? = some rs) (rk : ∀ r ∈ us, Row.ok ti r) (hl : lenV kd = .int ((us.length + 2 : Nat) : Int)) :
    isChg ts (.tup (deedL kd ti.nm us)) = true ∧ posT ts rss (.tup (deedL kd ti.nm us)) = possR ti kd us rs := by
  have fi := first_nm nd et
  have ln := (kd_text hl).2.2
  constructor
  · obtain ⟨r, us', rfl⟩ : ∃ r us', us = r :: us' := by
      cases us with
      | nil => rcases ln with e | e <;> exact nomatch e
      | cons r us' => exact ⟨r, us', rfl⟩
    show (decide (lenV kd = .int ((((rowT r :: us'.map rowT).length + 2 : Nat)) : Int)) && rowsOk ts (.str ti.nm) (rowT r :: us'.map rowT)) = true
    have e1 : (rowT r :: us'.map rowT).length = (r :: us').length := by
      simp
    rw [e1, decide_eq_true hl, Bool.true_and]
    unfold rowsOk
    rw [fi]
    dsimp only
    rw [et]
    show ((r :: us').map rowT).all (isRow ti.ss.length ti.zs.length) = true
    rw [List.all_map, List.all_eq_true]
    exact fun q m => row_isRow (rk q m)
  · show posL ts rss (.str kd :: .str ti.nm :: us.map rowT) = _
    unfold posL
    dsimp only
    rw [fi]
    dsimp only
    rw [et, er]
    dsimp only
    have e : (us.map rowT).map toRow = us := by
      rw [List.map_map]
      have : (toRow ∘ rowT) = id := funext fun r => toRow_rowT r
      rw [this, List.map_id]
    rw [e]
/-- the law's rows: they fit, they differ, they are few -/
structure WInv (ts : List Ti) (rss : List (List Row)) : Prop where
  rk : RkFit 12 ts rss
  nds : Nds rss
  cnt : countOf rss ≤ 12
theorem rk_of_count {N : Nat} {ts : List Ti} {rss : List (List Row)} (h : RkFit N ts rss) (c : countOf rss ≤ 12) : RkFit 12 ts rss := fun i ti rs e1 e2 => ⟨(h i ti rs e1 e2).1, Nat.le_trans (count_le e2) c⟩
theorem follow_count {ti : Ti} {kd : Str} {us rs : List Row} (hl : lenV kd = .int ((us.length + 2 : Nat) : Int)) (po : possR ti kd us rs = true) : (followR kd us rs).length ≤ rs.length + (if kd = insS then 1 else 0) := by
  rcases lenV_cases hl with ⟨e, ln⟩ | ⟨e, ln⟩ | ⟨e, ln⟩ <;> subst e
  · have e1 : followR delS us rs = rs.erase (us.getD 0 []) := by
      unfold followR
      rw [if_neg del_ins, if_pos rfl]
    rw [e1, if_neg del_ins]
    exact List.length_erase_le
  · have e1 : followR insS us rs = rs ++ us := by
      unfold followR
      rw [if_pos rfl]
    rw [e1, if_pos rfl, List.length_append, ln]
    exact Nat.le_refl _
  · obtain ⟨r, o, rfl⟩ := two_of ln
    rw [poss_rep, Bool.and_eq_true, Bool.and_eq_true] at po
    have m : r ∈ rs := of_decide_eq_true po.1.1
    have e1 : followR repS [r, o] rs = rs.erase r ++ [o] := by
      unfold followR
      rw [if_neg rep_ins, if_neg rep_del]
      rfl
    have l0 : 0 < rs.length := List.length_pos_of_mem m
    have l1 : ([o] : List Row).length = 1 := rfl
    rw [e1, if_neg rep_ins, List.length_append, List.length_erase_of_mem m, l1]
    omega
theorem both_stepW {ts : List Ti} {rss : List (List Row)} {kd : Str} {i : Nat} {ti : Ti} {us rs : List Row} (wi : WInv ts rss) (nd : (ts.map Ti.nm).Nodup) (et : ts[i]? = some ti) (er : rss[i]? = some rs) (rk : ∀ r ∈ us, Rk ti r)
    (hl : lenV kd = .int ((us.length + 2 : Nat) : Int)) (hc : kd = insS → countOf rss < 12) (po : posT ts rss (.tup (deedL kd ti.nm us)) = possR ti kd us rs) :
    stepsT ts (rss.map sortR) [.tup (deedL kd ti.nm us)] = (if possR ti kd us rs = true then rss.set i (followR kd us rs) else rss).map sortR ∧ WInv ts (if possR ti kd us rs = true then rss.set i (followR kd us rs) else rss) := by
  obtain ⟨b1, b2, b3⟩ := both_step wi.rk wi.nds nd et er rk hl po
  have c : countOf (if possR ti kd us rs = true then rss.set i (followR kd us rs) else rss) ≤ 12 := by
    by_cases e : possR ti kd us rs = true
    · rw [if_pos e]
      have c1 := count_set (rs' := followR kd us rs) er
      have c2 := follow_count hl e
      have c3 := wi.cnt
      by_cases q : kd = insS
      · rw [if_pos q] at c2
        have := hc q
        omega
      · rw [if_neg q] at c2
        omega
    · rw [if_neg e]
      exact wi.cnt
  exact ⟨b1, rk_of_count b2 c, b3, c⟩
theorem winv_nil {ts : List Ti} : WInv ts (ts.map fun _ => []) := by
  refine ⟨fun i ti rs e1 e2 => ?_, fun rs m => ?_, ?_⟩
  · rw [List.getElem?_map, e1] at e2
    obtain rfl := Option.some.inj e2
    exact ⟨(fun _ m => nomatch m), Nat.zero_le _⟩
  · obtain ⟨_, _, rfl⟩ := List.mem_map.mp m
    exact List.nodup_nil
  · have : countOf (ts.map fun _ => ([] : List Row)) = 0 := by
      unfold countOf
      rw [List.map_map]
      induction ts with
      | nil => rfl
      | cons t ts ih => simpa using ih
    omega
end Vm
/-! rows as data; whether the store is so -/
namespace Vm
open PySem L2
/-- a def's promise by its arguments' places -/
theorem _root_.L2.FnOk.byPlace {P : Program} {w : World} {K : PySem.W.Frag} {mg : Str → Option Value} {base : Heap} {CX : CXT} {k : Nat} {f : Addr} {fd : FuncData} {ps : List Str} {sp : Sp} (F : FnOk P w K mg base CX k f fd ps sp) (hb : Binds K fd ps []) : FnR P w K mg base CX k f sp :=
  (F.raw hb .nil).imp fun vs H Q E h => by
    rw [List.append_nil]
    exact h
def FrzAt (H : Hp) (c : Addr) : Prop := ∃ o u, H c = some (.frz o u)
theorem rows_bs {K : PySem.W.Frag} {H : Hp} : ∀ {xs : List V} {us : List Row}, RowsAt H xs us → (∀ r ∈ us, ∀ c ∈ r, smallC c = true) → ∃ bs, DtAll K H xs (us.map rowT) 1 bs ∧ ∀ c ∈ bs, ∃ o' r', H c = some (.frz o' (.tup ((r' : Row).map Cell.v)))
  | _, _, .nil, _ => ⟨[], .nil, fun _ m => nomatch m⟩
  | _, _, .cons h t, sm => by
    obtain ⟨bs, x1, x2⟩ := rows_bs (K := K) t fun r m => sm r (List.mem_cons_of_mem _ m)
    obtain ⟨q, o', rfl, e', d'⟩ := h
    refine ⟨[q] ++ bs, .cons (.tup e' d' (cells_dt (sm _ List.mem_cons_self)) List.not_mem_nil) x1, fun c m => ?_⟩
    rcases List.mem_append.mp m with m | m
    · rw [List.mem_singleton.mp m]
      exact ⟨o', _, e'⟩
    · exact x2 c m
theorem RwAt.dpF {K : PySem.W.Frag} {H : Hp} {v : V} {r : Row} (h : RwAt H v r) (sm : ∀ c ∈ r, smallC c = true) : DP K H (FrzAt H) v (rowT r) 1 := by
  obtain ⟨q, o', rfl, e', d'⟩ := h
  refine ⟨[q], .tup e' d' (cells_dt sm) List.not_mem_nil, fun c m => ?_⟩
  rw [List.mem_singleton.mp m]
  exact ⟨o', _, e'⟩
theorem RowsAt.dpsF {K : PySem.W.Frag} {H : Hp} : ∀ {xs : List V} {us : List Row}, RowsAt H xs us → (∀ r ∈ us, ∀ c ∈ r, smallC c = true) → DPs K H (FrzAt H) xs (us.map rowT) 1
  | _, _, .nil, _ => .nil
  | _, _, .cons h t, sm => .cons (RwAt.dpF h (sm _ List.mem_cons_self)) (RowsAt.dpsF t fun r m => sm r (List.mem_cons_of_mem _ m))
theorem RTup.dpF {K : PySem.W.Frag} {H : Hp} {q : Addr} {rs : List Row} (h : RTup H q rs) (sm : ∀ r ∈ rs, ∀ c ∈ r, smallC c = true) : DP K H (FrzAt H) (.ref q) (.tup (rs.map rowT)) 2 := by
  obtain ⟨o, vs, e, d, r⟩ := h
  obtain ⟨bs, x1, x2⟩ := rows_bs (K := K) r sm
  refine ⟨q :: bs, .tup e d x1 fun m => ?_, fun c m => ?_⟩
  · obtain ⟨o', r', e'⟩ := x2 q m
    rw [e] at e'
    have e2 := (HO.frz.inj (Option.some.inj e')).2
    have e3 : vs = r'.map Cell.v := by
      injection e2
    cases r with
    | nil =>
      cases x1
      exact nomatch m
    | cons hr tr =>
      obtain ⟨p, _, rfl, _⟩ := hr
      cases r' with
      | nil => exact nomatch e3
      | cons c r' =>
        have := (List.cons.inj e3).1
        cases c <;> exact nomatch this
  · rcases List.mem_cons.mp m with e1 | m
    · rw [e1]
      exact ⟨o, _, e⟩
    · obtain ⟨o', r', e'⟩ := x2 c m
      exact ⟨o', _, e'⟩
theorem RTups.dpsF {K : PySem.W.Frag} {H : Hp} : ∀ {qs : List Addr} {rss : List (List Row)}, RTups H qs rss → (∀ rs ∈ rss, ∀ r ∈ rs, ∀ c ∈ r, smallC c = true) → DPs K H (FrzAt H) (qs.map V.ref) (rss.map fun rs => .tup (rs.map rowT)) 2
  | _, _, .nil, _ => .nil
  | _, _, .cons h t, sm => .cons (RTup.dpF h (sm _ List.mem_cons_self)) (RTups.dpsF t fun r m => sm r (List.mem_cons_of_mem _ m))
def prT (p : Str × Row) : Tr := .tup [.str p.1, rowT p.2]
theorem PrAt.dpF {K : PySem.W.Frag} {H : Hp} {v : V} {p : Str × Row} (h : PrAt H v p) (n : nmS p.1 = true) (sm : ∀ c ∈ p.2, smallC c = true) : DP K H (FrzAt H) v (prT p) 2 := by
  obtain ⟨a, o, w, rfl, e, d, q, o', rfl, e', d'⟩ := h
  have b1 := (nm_text n).1
  have b2 := (nm_text n).2
  refine ⟨a :: ([] ++ ([q] ++ [])), .tup e d (.cons (.str (Nat.le_trans b1 (by decide)) (Nat.le_trans b2 (by decide))) (.cons (.tup e' d' (cells_dt sm) List.not_mem_nil) .nil)) fun m => ?_, fun c m => ?_⟩
  · have ea : a = q := by simpa using m
    rw [← ea, e] at e'
    have e2 := (HO.frz.inj (Option.some.inj e')).2
    have e3 : [V.str p.1, V.ref q] = p.2.map Cell.v := by
      injection e2
    cases hp : p.2 with
    | nil => rw [hp] at e3; exact nomatch e3
    | cons c r =>
      rw [hp] at e3
      cases r with
      | nil => exact nomatch (List.cons.inj e3).2
      | cons c2 r =>
        have := (List.cons.inj (List.cons.inj e3).2).1
        cases c2 <;> exact nomatch this
  · rcases List.mem_cons.mp m with e1 | m
    · rw [e1]
      exact ⟨o, _, e⟩
    · have e1 : c = q := by simpa using m
      rw [e1]
      exact ⟨o', _, e'⟩
theorem PrsAt.dpsF {K : PySem.W.Frag} {H : Hp} : ∀ {vs : List V} {ps : List (Str × Row)}, PrsAt H vs ps → (∀ p ∈ ps, nmS p.1 = true ∧ ∀ c ∈ p.2, smallC c = true) → DPs K H (FrzAt H) vs (ps.map prT) 2
  | _, _, .nil, _ => .nil
  | _, _, .cons h t, sm => .cons (PrAt.dpF h (sm _ List.mem_cons_self).1 (sm _ List.mem_cons_self).2) (PrsAt.dpsF t fun r m => sm r (List.mem_cons_of_mem _ m))
/-- a list of such -/
theorem lst_dt {K : PySem.W.Frag} {H : Hp} {D : Addr} {vs : List V} {ts : List Tr} {n : Nat} (e : H D = some (.lst vs)) (d : DPs K H (FrzAt H) vs ts n) : ∃ bs, Dt K H (.ref D) (.lst ts) (n + 1) bs := by
  obtain ⟨bs, d, p⟩ := d
  refine ⟨D :: bs, .lst e d fun m => ?_⟩
  obtain ⟨o, u, q⟩ := p D m
  rw [e] at q
  cases q
theorem rows_w {t : Ti} (g : t.ok) : ∀ {rs : List Row}, (∀ r ∈ rs, Rk t r) → ws (rs.map rowT) ≤ 422 * rs.length
  | [], _ => Nat.zero_le _
  | r :: rs, rk => by
    have h1 := (rk r List.mem_cons_self).w g
    have h2 := rows_w g (rs := rs) fun r m => rk r (List.mem_cons_of_mem _ m)
    show ((rowT r).w + 2) + ws (rs.map rowT) ≤ 422 * (rs.length + 1)
    omega
theorem row_one {ts : List Ti} {rss : List (List Row)} (wn : Wn ts) (wi : WInv ts rss) (lr : rss.length = ts.length) : ∀ rs ∈ rss, ∀ r ∈ rs, (∀ c ∈ r, smallC c = true) ∧ (rowT r).w ≤ 420 := by
  intro rs m r hr
  obtain ⟨i, e⟩ := List.mem_iff_getElem?.mp m
  have lt : i < ts.length := by
    rw [← lr]
    exact (List.getElem?_eq_some_iff.mp e).1
  have et := List.getElem?_eq_getElem lt
  have rk := (wi.rk i _ rs et e).1 r hr
  exact ⟨rk.sm, rk.w (wn.ok _ (List.mem_of_getElem? et)).g⟩
theorem tups_w : ∀ {rss : List (List Row)}, (∀ rs ∈ rss, ∀ r ∈ rs, (rowT r).w ≤ 420) → ws (rss.map fun rs => .tup (rs.map rowT)) ≤ 5 * rss.length + 422 * countOf rss
  | [], _ => Nat.zero_le _
  | rs :: rss, h => by
    have h2 := tups_w (rss := rss) fun q m => h q (List.mem_cons_of_mem _ m)
    have h1 : ∀ {qs : List Row}, (∀ r ∈ qs, (rowT r).w ≤ 420) → ws (qs.map rowT) ≤ 422 * qs.length := by
      intro qs
      induction qs with
      | nil => exact fun _ => Nat.zero_le _
      | cons q qs ih =>
        intro hq
        have a := hq q List.mem_cons_self
        have b := ih fun r m => hq r (List.mem_cons_of_mem _ m)
        show ((rowT q).w + 2) + ws (qs.map rowT) ≤ 422 * (qs.length + 1)
        omega
    have h3 := h1 (h rs List.mem_cons_self)
    show ((3 + ws (rs.map rowT)) + 2) + ws (rss.map fun rs => .tup (rs.map rowT)) ≤ 5 * (rss.length + 1) + 422 * (rs.length + countOf rss)
    omega
theorem prs_w : ∀ {ps : List (Str × Row)}, (∀ p ∈ ps, nmS p.1 = true ∧ (rowT p.2).w ≤ 420) → ws (ps.map prT) ≤ 800 * ps.length
  | [], _ => Nat.zero_le _
  | p :: ps, h => by
    have h2 := prs_w (ps := ps) fun q m => h q (List.mem_cons_of_mem _ m)
    obtain ⟨a, b⟩ := h p List.mem_cons_self
    have c := (nm_text a).1
    show ((3 + (((reprText p.1).length + 2) + (((rowT p.2).w + 2) + 0))) + 2) + ws (ps.map prT) ≤ 800 * (ps.length + 1)
    omega
theorem pairs_mem : ∀ {ts : List Ti} {rss : List (List Row)} {p : Str × Row}, p ∈ pairsOf ts rss → ∃ (i : Nat) (t : Ti) (rs : List Row), ts[i]? = some t ∧ rss[i]? = some rs ∧ p.1 = t.nm ∧ p.2 ∈ rs
  | [], _, _, h => nomatch h
  | _ :: _, [], _, h => nomatch h
  | t :: ts, rs :: rss, p, h => by
    have h' : p ∈ rs.map (fun r => (t.nm, r)) ++ pairsOf ts rss := h
    rcases List.mem_append.mp h' with m | m
    · obtain ⟨r, hr, rfl⟩ := List.mem_map.mp m
      exact ⟨0, t, rs, rfl, rfl, rfl, hr⟩
    · obtain ⟨i, t', rs', e1, e2, e3, e4⟩ := pairs_mem m
      exact ⟨i + 1, t', rs', e1, e2, e3, e4⟩
theorem count_sort : ∀ rss : List (List Row), countOf (rss.map sortR) = countOf rss
  | [] => rfl
  | rs :: rss => by
    show (sortR rs).length + countOf (rss.map sortR) = rs.length + countOf rss
    rw [count_sort rss, (sortR_perm rs).length_eq]
theorem WInv.sort {ts : List Ti} {rss : List (List Row)} (h : WInv ts rss) : WInv ts (rss.map sortR) := by
  refine ⟨h.rk.sort, fun rs m => ?_, by rw [count_sort]; exact h.cnt⟩
  obtain ⟨q, hq, rfl⟩ := List.mem_map.mp m
  exact (sortR_perm q).nodup_iff.mpr (h.nds q hq)
/-- a row that is there is there -/
theorem has_row {ts : List Ti} {rss : List (List Row)} {i : Nat} {ti : Ti} {rs : List Row} {r : Row} (nd : (ts.map Ti.nm).Nodup) (et : ts[i]? = some ti) (er : rss[i]? = some rs) (ok : Row.ok ti r) : hasT ts rss (prT (ti.nm, r)) = decide (r ∈ rs) := by
  show (match firstAt ts (.str ti.nm) with | some i => _ | none => _) = _
  rw [first_nm nd et]
  show (match ts[i]?, rss[i]? with | some ti, some rs => _ | _, _ => _) = _
  rw [et, er]
  show (isRow ti.ss.length ti.zs.length (rowT r) && decide (toRow (rowT r) ∈ rs)) = _
  rw [row_isRow ok, toRow_rowT, Bool.true_and]
end Vm
/-! the law: the rows of a table; what is not in the store -/
namespace Vm
open PySem PySem.Spec PyProof.Rows L2
abbrev sRowsOfL : Stmt := top 61
abbrev sStrange : Stmt := top 60
theorem cells_any (c : Cell) : ∀ r : Row, ((r.map Cell.d).any fun z => PyData.eqv z c.d) = decide (c ∈ r)
  | [] => rfl
  | q :: r => by
    have e : PyData.eqv q.d c.d = decide (q = c) := by
      have h := cells_eqv [q] [c]
      have h' : (PyData.eqv q.d c.d && true) = decide ([q] = [c]) := h
      rw [Bool.and_true] at h'
      rw [h']
      exact decide_eq_decide.mpr ⟨fun e => (List.cons.inj e).1, fun e => by rw [e]⟩
    rw [List.map_cons, List.any_cons, cells_any c r, e]
    by_cases h : q = c
    · subst h
      rw [decide_eq_true rfl, Bool.true_or, decide_eq_true List.mem_cons_self]
    · rw [decide_eq_false h, Bool.false_or]
      exact decide_eq_decide.mpr ⟨List.mem_cons_of_mem _, fun m => (List.mem_cons.mp m).resolve_left fun e => h e.symm⟩
/-- a value of a row in a tuple of such -/
def rInC (K : PySem.W.Frag) : R2 := fun x y H Q => ∃ (c : Cell) (q : Addr) (r : Row), x = c.v ∧ y = .ref q ∧ SqT K H q (r.map Cell.v) ∧ Q (.bl (decide (c ∈ r))) H
theorem op_inC {X : Cx} (hu : X.A.units + 8 < cLine) : OpR X (compareOp .In) (rInC X.K) := by
  intro pins s σ H x y v u Q I rx ry h
  obtain ⟨c, q, r, rfl, rfl, hq, k⟩ := h
  have dc : Dp X.K H c.v c.d := by
    cases c with
    | s x => exact .str x
    | i n => exact .int n
  have pc : c.d.plain = true := by cases c <;> rfl
  have ec : c.d.depth = 0 := by cases c <;> rfl
  obtain ⟨as, r1⟩ := Dp.reads I c.d c.v v dc rx
  obtain ⟨bs, r2⟩ := Dp.reads I (.tuple (r.map Cell.d)) _ u (.tup hq (cellsDp r)) ry
  refine SeqAt.in_tuple_data r2 r1 (cells_plain r) pc (by rw [ec]; omega) ⟨.bl _, H, I, rfl, ?_⟩
  rw [cells_any]
  exact k
theorem new_dp {K : PySem.W.Frag} {H : Hp} {vs : List V} {ts : List Tr} {n : Nat} {Q : VK} (hs : vs.length ≤ sizeLine) (d : DPs K H (fun _ => True) vs ts n) (k : ∀ v H', Same H H' → DP K H' (fun _ => True) v (.tup ts) (n + 1) → Q v H') : vs.length ≤ sizeLine ∧ New H vs Q :=
  ⟨hs, fun p o hp ho => k _ _ (same_upd hp) (d.tup hp trivial ho)⟩
theorem new_lst {K : PySem.W.Frag} {H : Hp} {vs : List V} {ts : List Tr} {n : Nat} {Q : VK} (hs : vs.length ≤ sizeLine) (d : DPs K H (fun _ => True) vs ts n) (k : ∀ p H', Same H H' → H p = none → H' p = some (.lst vs) → DP K H' (fun _ => True) (.ref p) (.lst ts) (n + 1) → Q (.ref p) H') : vs.length ≤ sizeLine ∧ ∀ p, H p = none → Q (.ref p) (upd H p (.lst vs)) :=
  ⟨hs, fun p hp => k p _ (same_upd hp) hp upd_same (d.lst hp trivial)⟩
/-! what is not there -/
theorem has_pair {ts : List Ti} {rss : List (List Row)} {x y : Tr} (h : ∀ (i : Nat) (ti : Ti) (rs : List Row), firstAt ts x = some i → ts[i]? = some ti → rss[i]? = some rs → (isRow ti.ss.length ti.zs.length y && decide (toRow y ∈ rs)) = false) : hasT ts rss (.tup [x, y]) = false := by
  show (match firstAt ts x with | some i => (match ts[i]?, rss[i]? with | some ti, some rs => isRow ti.ss.length ti.zs.length y && decide (toRow y ∈ rs) | _, _ => false) | none => false) = false
  cases fi : firstAt ts x with
  | none => rfl
  | some i =>
    dsimp only
    cases et : ts[i]? with
    | none => rfl
    | some ti =>
      cases er : rss[i]? with
      | none => rfl
      | some rs => exact h i ti rs fi et er
theorem has_noRow {ts : List Ti} {rss : List (List Row)} {x y : Tr} (h : ∀ ti ∈ ts, isRow ti.ss.length ti.zs.length y = false) : hasT ts rss (.tup [x, y]) = false := has_pair fun i ti rs _ et _ => by rw [h ti (List.mem_of_getElem? et), Bool.false_and]
theorem has_noName {ts : List Ti} {rss : List (List Row)} {x y : Tr} (h : ∀ ti ∈ ts, isS ti.nm x = false) : hasT ts rss (.tup [x, y]) = false := has_pair fun i ti rs fi _ _ => by
  rw [first_none h] at fi
  cases fi
theorem isRow_len {a b : Nat} {us : List Tr} (h : us.length ≠ a + b) : isRow a b (.tup us) = false := by
  show (decide (us.length = a + b) && _) = false
  rw [decide_eq_false h, Bool.false_and]
theorem isRow_bl {a b : Nat} {us : List Tr} (h : ∃ c, Tr.bl c ∈ us) : isRow a b (.tup us) = false := by
  obtain ⟨c, m⟩ := h
  cases e : isRow a b (.tup us) with
  | false => rfl
  | true =>
    have h' : (decide (us.length = a + b) && ((us.take a).all isNm && (us.drop a).all isNum)) = true := e
    rw [Bool.and_eq_true, Bool.and_eq_true, List.all_eq_true, List.all_eq_true] at h'
    rw [← List.take_append_drop a us] at m
    rcases List.mem_append.mp m with m | m
    · exact nomatch h'.2.1 _ m
    · exact nomatch h'.2.2 _ m
theorem nm_ext : ∀ x ∈ namesOf.flatten, ∀ y ∈ namesOf.flatten, x ++ "x" ≠ y := by decide +kernel
theorem has_cells {ts : List Ti} {rss : List (List Row)} (r : Row) : hasT ts rss (rowT r) = false := by
  show hasL ts rss (r.map Cell.t) = false
  match r with
  | [] => rfl
  | [_] => rfl
  | [a, b] => exact has_noRow (x := a.t) (y := b.t) fun ti _ => by cases b <;> rfl
  | _ :: _ :: _ :: _ => rfl
def spRowsOfL : Sp := fun vs H Q _ => ∃ (w : Addr) (ps rls : List Addr) (ts : List Ti) (rss : List (List Row)) (i : Nat) (ti : Ti), vs = [.ref w, .str ti.nm] ∧ Wl H w ps rls ts rss ∧ (ts.map Ti.nm).Nodup ∧ ts[i]? = some ti ∧
  ∀ H' rl, rls[i]? = some rl → Same H H' → Q (.ref rl) H'
section
variable {P : Program} {w : World} {K : PySem.W.Frag} {mg : Str → Option Value} {base : Heap}
theorem scRowsOfL : FnScope ["_law_world_here", "_law_name", "_law_pair"] ["_law_world_here", "_law_name"] (defScope sRowsOfL) := ⟨rfl, rfl, rfl, by decide +kernel, rfl, by decide +kernel, by decide +kernel⟩
theorem ok_rowsofl {f : Addr} {fd : FuncData} (F : Fun K "_law_rows_of" "_law_rows_of" sRowsOfL f fd) : FnOk P w K mg base CX0 1 f fd ["_law_world_here", "_law_name"] spRowsOfL := by
  refine F.ok scRowsOfL (fun vs H Q E h => ?_) (fun cdv A outer s H vs Q E hr h => ?_)
  · obtain ⟨w, ps, rls, ts, rss, i, ti, rfl, _⟩ := h
    rfl
  · obtain ⟨w, ps, rls, ts, rss, i, ti, rfl, wl, nd, et, k⟩ := h
    have big : sizeLine > 1000 := by decide
    refine ⟨_, pss_one (ps_ret (pe_ix ix_list (pe_lc (own := [("_law_pair", 2)]) (g := gName 2) (tt := tTest (tOp rEq (tOp (rIxT K) (tOp (rIxL K) (tVar 2) (tC (.int 0))) (tC (.int 0))) (tVar 1))) (te := tOp (rIxL K) (tVar 2) (tC (.int 1))) rfl scRowsOfL.nd (pi_list (pv 0))
            (blkOk_by (N := ["_law_world_here", "_law_name", "_law_pair"]) (sc := defScope sRowsOfL) (by decide +kernel)) (fun _ _ _ _ _ => pg_name (i := 2) scRowsOfL.nd rfl (Or.inl rfl))
            (fun _ _ _ _ _ => by exact (pts_one (pt_cmpR op_eq (pe_ix ix_tup (pe_ix ix_list (pv 2) pe_int (fun _ _ => rfl)) pe_int (fun _ _ => rfl)) (pv 1) (nomark _)))) (fun _ _ _ _ _ => by exact (pe_ix ix_list (pv 2) pe_int (fun _ _ => rfl)))) pe_int (fun _ _ => rfl))), ?_⟩
    have ilt : i < ts.length := (List.getElem?_eq_some_iff.mp et).1
    obtain ⟨p0, rl, ti', rs', ep, erl, et', er', sm, vs, hp0, ha, hrl, hrs⟩ := wl.at ilt
    refine ⟨_, rfl, w, rfl, ⟨_, SqL.of wl.hw⟩, fun D hD => ?_⟩
    refine lc_list (K := K) (a := w) (xs := ps.map V.ref) (fun j H' => Same H H' ∧ H' D = some (.lst (if i < j then [V.ref rl] else []))) ⟨same_upd hD, by rw [if_neg (Nat.not_lt_zero _)]; exact upd_same⟩ (fun j H' _ z => SqL.of (z.1 _ _ wl.hw)) ?_ ?_
    · rintro j y H2 hj ⟨s2, e2⟩
      have jlt : j < ts.length := by
        have := (List.getElem?_eq_some_iff.mp hj).1
        rw [List.length_map, wl.lp] at this
        exact this
      obtain ⟨pj, rlj, tj, rsj, f1, f2, f3, _, smj, vsj, h0, ⟨oj, b1, b2, b3, hsj, hodj, _⟩, _, _⟩ := wl.at jlt
      rw [List.getElem?_map, f1] at hj
      obtain rfl := Option.some.inj hj
      refine ⟨rfl, ?_⟩
      refine ⟨_, rfl, pj, _, 0, .ref smj, rfl, rfl, SqL.of (s2 _ _ h0), rfl, smj, _, 0, .str tj.nm, rfl, rfl, .inl (.inr ⟨oj, s2 _ _ hsj⟩), rfl, _, rfl, rfl, _, rfl, ?_⟩
      have ed : decide (V.str tj.nm = V.str ti.nm) = decide (j = i) := decide_eq_decide.mpr ⟨fun e => nm_same nd f3 et (V.str.inj e), fun e => by
        rw [e, et] at f3
        obtain rfl := Option.some.inj f3
        rfl⟩
      rw [ed]
      by_cases e : j = i
      · rw [decide_eq_true e]
        subst e
        rw [f2] at erl
        obtain rfl := Option.some.inj erl
        rw [if_neg (Nat.lt_irrefl _)] at e2
        refine iteT ⟨_, rfl, pj, _, 1, .ref rlj, rfl, rfl, SqL.of (s2 _ _ h0), rfl, _, e2, by show 0 < sizeLine; omega, fun b u eu => ?_, ?_⟩
        · rw [upd_ne (ne_of_none eu hD)]
          exact s2 b u eu
        · rw [upd_same, if_pos (Nat.lt_succ_self _)]
          rfl
      · rw [decide_eq_false e]
        refine iteF ⟨s2, ?_⟩
        rw [e2]
        by_cases q : i < j
        · rw [if_pos q, if_pos (by omega)]
        · rw [if_neg q, if_neg (by omega)]
    rintro H2 ⟨s2, e2⟩
    rw [List.length_map, wl.lp, if_pos ilt] at e2
    exact ⟨D, _, 0, .ref rl, rfl, rfl, SqL.of e2, rfl, k H2 rl erl s2⟩
end
end Vm
namespace Vm
open PySem L2
theorem cat_dps {K : PySem.W.Frag} {H : Hp} {P P2 : Addr → Prop} {L : Addr} {o : HO} {vs ys : List V} {us ws : List Tr} {n : Nat} (hL : H L = none) (d : DPs K H P vs us n) (e : DPs K H P2 ys ws n) : DPs K (upd H L o) (fun c => c ≠ L) (vs ++ ys) (us ++ ws) n := by
  have a := d.there.imp (Q := fun c => c ≠ L) fun c h => by
    obtain ⟨_, _, q⟩ := h
    exact ne_of_none q hL
  have b := e.there.imp (Q := fun c => c ≠ L) fun c h => by
    obtain ⟨_, _, q⟩ := h
    exact ne_of_none q hL
  exact (a.append b).same (same_upd hL)
theorem free_dps {K : PySem.W.Frag} {H : Hp} {P : Addr → Prop} {L : Addr} {o : HO} {vs : List V} {us : List Tr} {n : Nat} (hL : H L = none) (d : DPs K H P vs us n) : DPs K (upd H L o) (fun c => c ≠ L) vs us n :=
  (d.there.imp (Q := fun c => c ≠ L) fun c h => by
    obtain ⟨_, _, q⟩ := h
    exact ne_of_none q hL).same (same_upd hL)
theorem gName_ap {i : Nat} {x : V} {σ : L2.St} {H : Hp} {Q : L2.St → Hp → Prop} : gName i x σ H Q = Q (σ.set i (some x)) H := rfl
theorem if_join {t : TT} {A1 A2 B : TS} {D : Ends} {σ : L2.St} {H : Hp} (I : L2.St → Hp → Prop) (h : ∀ σ H, I σ H → B D σ H) (k : (∀ σ H, I σ H → B D σ H) → tSeq (tIfS t A1 A2) B D σ H) : tSeq (tIfS t A1 A2) B D σ H := k h
theorem ext_fits : ∀ x ∈ namesOf.flatten, (reprText (x ++ "x")).length ≤ 302 ∧ (x ++ "x").length ≤ 302 ∧ x.length + ("x" : Str).length ≤ 302 := by decide +kernel
/-- trees of values that are not in the store -/
def Nots (ts : List Ti) (rss : List (List Row)) (us : List Tr) : Prop := ∀ u ∈ us, hasT ts rss u = false ∧ u.w ≤ 3000
theorem Nots.append {ts : List Ti} {rss : List (List Row)} {us ws : List Tr} (a : Nots ts rss us) (b : Nots ts rss ws) : Nots ts rss (us ++ ws) := fun u m => (List.mem_append.mp m).elim (a u) (b u)
theorem Nots.cons {ts : List Ti} {rss : List (List Row)} {u : Tr} {us : List Tr} (a : hasT ts rss u = false) (w : u.w ≤ 3000) (b : Nots ts rss us) : Nots ts rss (u :: us) := fun x m => by
  rcases List.mem_cons.mp m with e | m
  · rw [e]
    exact ⟨a, w⟩
  · exact b x m
theorem Nots.nil {ts : List Ti} {rss : List (List Row)} : Nots ts rss [] := fun _ m => nomatch m
theorem cutL_take1 {α : Type} (xs : List α) : cutL xs none (some 1) = xs.take 1 := by
  have e := HT.sIx_nat xs.length xs.length 1
  unfold cutL
  show (xs.drop 0).take (HT.sIx xs.length xs.length (some ((1 : Nat) : Int)) - 0) = _
  rw [e, List.drop_zero, Nat.sub_zero, List.take_eq_take_iff]
  omega
theorem cutL_drop1 {α : Type} (xs : List α) : cutL xs (some 1) none = xs.drop 1 := by
  have e := HT.sIx_nat xs.length 0 1
  unfold cutL
  show (xs.drop (HT.sIx xs.length 0 (some ((1 : Nat) : Int)))).take (xs.length - HT.sIx xs.length 0 (some ((1 : Nat) : Int))) = _
  rw [e, List.take_of_length_le (by rw [List.length_drop]; omega)]
  by_cases h : 1 ≤ xs.length
  · rw [Nat.min_eq_left h]
  · rw [Nat.min_eq_right (by omega), List.drop_eq_nil_of_le (by omega), List.drop_eq_nil_of_le (by omega)]
def is01 (c : Cell) : Bool := decide (c ∈ [Cell.i 0, Cell.i 1])
/-- a bool for 0 and 1 -/
def bent (c : Cell) : Tr := if is01 c = true then .bl (decide (c = .i 1)) else c.t
theorem bent_row {ts : List Ti} {rss : List (List Row)} {x : Tr} {r : Row} (h : (r.filter is01) ≠ []) : hasT ts rss (.tup [x, .tup (r.map bent)]) = false := by
  refine has_noRow fun ti _ => isRow_bl ?_
  obtain ⟨c, m⟩ := List.exists_mem_of_ne_nil _ h
  obtain ⟨m1, m2⟩ := List.mem_filter.mp m
  refine ⟨decide (c = .i 1), List.mem_map.mpr ⟨c, m1, ?_⟩⟩
  unfold bent
  rw [if_pos m2]
def bentV (c : Cell) : V := if is01 c = true then .bl (decide (c = .i 1)) else c.v
theorem bent_dps {K : PySem.W.Frag} {H : Hp} {P : Addr → Prop} {n : Nat} : ∀ {r : Row}, (∀ c ∈ r, smallC c = true) → DPs K H P (r.map bentV) (r.map bent) n
  | [], _ => .nil
  | c :: r, sm => by
    refine .cons ?_ (bent_dps fun c m => sm c (List.mem_cons_of_mem _ m))
    unfold bentV bent
    cases hb : is01 c with
    | true =>
      rw [if_pos rfl, if_pos rfl]
      exact .bl _
    | false =>
      rw [if_neg Bool.false_ne_true, if_neg Bool.false_ne_true]
      have h := sm c List.mem_cons_self
      cases c with
      | s x => exact .str (Nat.le_trans (nm_text h).1 (by decide)) (Nat.le_trans (nm_text h).2 (by decide))
      | i n => exact .int (farOk (of_decide_eq_true h)).1
theorem bent_w {c : Cell} (h : smallC c = true) : (bent c).w ≤ 100 := by
  unfold bent
  split
  · show 5 ≤ 100
    decide
  · exact cell_w h
theorem bents_w : ∀ {r : Row}, (∀ c ∈ r, smallC c = true) → ws (r.map bent) ≤ 102 * r.length
  | [], _ => Nat.zero_le _
  | c :: r, sm => by
    have h1 := bent_w (sm c List.mem_cons_self)
    have h2 := bents_w (r := r) fun c m => sm c (List.mem_cons_of_mem _ m)
    show ((bent c).w + 2) + ws (r.map bent) ≤ 102 * (r.length + 1)
    omega
def spStrange (K : PySem.W.Frag) : Sp := fun vs H Q _ => ∃ (s l w : Addr) (ms : List Int) (z b : Int) (ps rls : List Addr) (ts : List Ti) (rss : List (List Row)), vs = [.ref s, .ref w] ∧ Src H s l ms z b ∧ 0 ≤ b ∧ b < 600000 ∧ Wl H w ps rls ts rss ∧ Wn ts ∧ WInv ts rss ∧ (∀ c ∈ w :: (ps ++ rls), Off s l c) ∧
  ∀ (H' : Hp) (ms' : List Int) (b' : Int) (D : Addr) (xs : List V) (us : List Tr), But s l H H' → Src H' s l ms' z b' → b ≤ b' → b' ≤ b + 10 → H' D = some (.lst xs) → H D = none → DPs K H' (fun _ => True) xs us 3 → Nots ts (rss.map sortR) us → us.length ≤ 500 → Q (.ref D) H'
section
variable {P : Program} {w : World} {K : PySem.W.Frag} {mg : Str → Option Value} {base : Heap} {fD fP fR fRo : Addr}
theorem scStrange : FnScope ["_law_source_here", "_law_world_here", "_law_some", "_law_rows", "_law_row_here", "_law_names", "_law_found", "_law_one", "_law_pair", "_law_value", "_law_other"] ["_law_source_here", "_law_world_here"] (defScope sStrange) := ⟨rfl, rfl, rfl, by decide +kernel, rfl, by decide +kernel, by decide +kernel⟩
theorem ok_strange {f : Addr} {fd fdP fdR fdRo : FuncData} (F : Fun K "_law_strange" "_law_strange" sStrange f fd) (T : TxtL K mg fD fP)
    (GP : FnOk P w K mg base CX0 2 fP fdP ["_law_source_here", "_law_items"] (spPick K)) (bP : Binds K fdP ["_law_source_here", "_law_items"] [])
    (cR : Calls K mg "_law_row" fR) (GR : FnOk P w K mg base CX0 3 fR fdR ["_law_source_here", "_law_some"] spRowL) (bR : Binds K fdR ["_law_source_here", "_law_some"] [])
    (cRo : Calls K mg "_law_rows_of" fRo) (GRo : FnOk P w K mg base CX0 1 fRo fdRo ["_law_world_here", "_law_name"] spRowsOfL) (bRo : Binds K fdRo ["_law_world_here", "_law_name"] []) :
    FnOk P w K mg base CX0 4 f fd ["_law_source_here", "_law_world_here"] (spStrange K) := by
  refine F.ok scStrange (fun vs H Q E h => ?_) (fun cdv A outer s H vs Q E hr h => ?_)
  · obtain ⟨s, l, w, ms, z, b, ps, rls, ts, rss, rfl, _⟩ := h
    rfl
  · obtain ⟨a, l, w, ms, z, b, ps, rls, ts, rss, rfl, hs, b0, b1, wl, wn, wi, off, k⟩ := h
    have hr1 : Room 1 _ := hr.mono (by decide)
    have hr2 : Room 2 _ := hr.mono (by decide)
    have hu : (A.deeper (PyProof.Rows.envOfC "_law_strange" (defScope sStrange) s.heap.objs.size f cdv)).units + 8 < cLine := by
      have := hr.units
      omega
    have big : sizeLine > 100000 := by decide
    refine ⟨_, pss_cons (ps_asg (pe_call GP hr2 rfl T.gP T.kP bP .nil pass0 (pa_cons (pv 0) (pa_cons (pv 1) pa_nil))) (pg_lst rfl (pgs_cons (pg_name (i := 2) scStrange.nd rfl (Or.inr rfl)) (pgs_cons (pg_name (i := 3) scStrange.nd rfl (Or.inl rfl)) pgs_nil))))
      (pss_cons (ps_par (i := 4) (j := 5) rfl scStrange.nd rfl rfl (by decide) rfl rfl (pa_cons (pe_call GR hr rfl cR.g cR.k bR .nil pass0 (pa_cons (pv 0) (pa_cons (pv 2) pa_nil)))
          (pa_cons (pe_lc (own := [("_law_pair", 8)]) (g := gName 8) (tt := tYes) (te := tOp (rIxT K) (tOp (rIxL K) (tVar 8) (tC (.int 0))) (tC (.int 0))) rfl scStrange.nd (pi_list (pv 1))
            (blkOk_by (N := ["_law_source_here", "_law_world_here", "_law_some", "_law_rows", "_law_row_here", "_law_names", "_law_found", "_law_one", "_law_pair", "_law_value", "_law_other"]) (sc := defScope sStrange) (by decide +kernel)) (fun _ _ _ _ _ => pg_name (i := 8) scStrange.nd rfl (Or.inl rfl))
            (fun _ _ _ _ _ => pts_nil) (fun _ _ _ _ _ => by exact (pe_ix ix_tup (pe_ix ix_list (pv 8) pe_int (fun _ _ => rfl)) pe_int (fun _ _ => rfl)))) pa_nil)) (by rfl))
      (pss_cons (ps_set (i := 6) scStrange.nd rfl (Or.inl rfl) (pe_lst (pa_cons pe_non (pa_cons (pe_tupF pa_nil) (pa_cons (pe_tupF (pa_cons (pe_ix ix_tup (pv 2) pe_int (fun _ _ => rfl)) pa_nil)) (pa_cons (pv 4)
          (pa_cons (pe_lst (pa_cons (pe_ix ix_tup (pv 2) pe_int (fun _ _ => rfl)) (pa_cons (pv 4) pa_nil))) (pa_cons (pe_tupF (pa_cons (pe_ix ix_tup (pv 2) pe_int (fun _ _ => rfl)) (pa_cons (pe_callTy call_listD (by rfl) T.list (by decide +kernel) (pa_cons (pv 4) pa_nil)) pa_nil)))
          (pa_cons (pe_tupF (pa_cons (pe_ix ix_tup (pv 2) pe_int (fun _ _ => rfl)) (pa_cons (pv 4) (pa_cons (pv 4) pa_nil)))) (pa_cons (pe_tupF (pa_cons (pv 4) (pa_cons (pe_ix ix_tup (pv 2) pe_int (fun _ _ => rfl)) pa_nil))) pa_nil))))))))))
      (pss_cons (ps_set (i := 6) scStrange.nd rfl (Or.inl rfl) (pe_op op_cat (pv 6) (pe_lst (pa_cons (pe_tupF (pa_cons (pe_op op_add_str (pe_ix ix_tup (pv 2) pe_int (fun _ _ => rfl)) pe_str) (pa_cons (pv 4) pa_nil))) (pa_cons (pe_tupF (pa_cons pe_non (pa_cons (pv 4) pa_nil)))
          (pa_cons (pe_tupF (pa_cons (pe_ix ix_tup (pv 2) pe_int (fun _ _ => rfl)) (pa_cons (pe_tupF pa_nil) pa_nil))) (pa_cons (pe_tupF (pa_cons (pe_ix ix_tup (pv 2) pe_int (fun _ _ => rfl)) (pa_cons pe_non pa_nil)))
          (pa_cons (pd_dict (n := 0)) (pa_cons (pe_tupF (pa_cons (pe_lst (pa_cons pe_str pa_nil)) (pa_cons (pv 4) pa_nil))) (pa_cons pe_int pa_nil))))))))))
      (pss_cons (ps_for PassesOwn.never rfl (pi_list (pv 3)) (pg_name (i := 7) scStrange.nd rfl (Or.inr rfl))
          (pss_cons (ps_set (i := 6) scStrange.nd rfl (Or.inl rfl) (pe_op op_cat (pv 6) (pe_lst (pa_cons (pe_tupF (pa_cons (pe_ix ix_tup (pv 2) pe_int (fun _ _ => rfl)) (pa_cons (pe_op op_catD (pv 7) (pe_slice sl_D (pv 7) po_none (po_some pe_int))) pa_nil)))
              (pa_cons (pe_tupF (pa_cons (pe_ix ix_tup (pv 2) pe_int (fun _ _ => rfl)) (pa_cons (pe_slice sl_D (pv 7) (po_some pe_int) po_none) pa_nil))) (pa_cons (pe_lst (pa_cons (pe_ix ix_tup (pv 2) pe_int (fun _ _ => rfl)) (pa_cons (pv 7) pa_nil))) pa_nil))))))
          (pss_cons (ps_set (i := 6) scStrange.nd rfl (Or.inl rfl) (pe_op op_cat (pv 6) (pe_lst (pa_cons (pe_tupF (pa_cons (pe_ix ix_tup (pv 2) pe_int (fun _ _ => rfl)) (pa_cons (pe_callTy call_tupleF (by rfl) T.tuple (by decide +kernel) (pa_cons
              (pe_lc (own := [("_law_value", 9)]) (g := gName 9) (tt := tYes) (te := tIf (tTest (tOp (rInC K) (tVar 9) (tTupF (tCons (tC (.int 0)) (tCons (tC (.int 1)) tNil))))) (tOp rEq (tVar 9) (tC (.int 1))) (tVar 9)) rfl scStrange.nd (pi_tup (pv 7))
                (blkOk_by (N := ["_law_source_here", "_law_world_here", "_law_some", "_law_rows", "_law_row_here", "_law_names", "_law_found", "_law_one", "_law_pair", "_law_value", "_law_other"]) (sc := defScope sStrange) (by decide +kernel)) (fun _ _ _ _ _ => pg_name (i := 9) scStrange.nd rfl (Or.inl rfl))
                (fun _ _ _ _ _ => pts_nil) (fun _ _ _ _ _ => by exact (pe_ifExp (pt_cmpR (op_inC hu) (pv 9) (pe_tupF (pa_cons pe_int (pa_cons pe_int pa_nil))) (by rfl)) (pe_cmpR op_eq (pv 9) pe_int (nomark _)) (pv 9)))) pa_nil)) pa_nil))) pa_nil))))
          (pss_cons (ps_if (pt_cmpR (op_eqP hu) (pe_lc (own := [("_law_value", 9)]) (g := gName 9) (tt := tTest (tOp (rInC K) (tVar 9) (tTupF (tCons (tC (.int 0)) (tCons (tC (.int 1)) tNil))))) (te := tVar 9) rfl scStrange.nd (pi_tup (pv 7))
                (blkOk_by (N := ["_law_source_here", "_law_world_here", "_law_some", "_law_rows", "_law_row_here", "_law_names", "_law_found", "_law_one", "_law_pair", "_law_value", "_law_other"]) (sc := defScope sStrange) (by decide +kernel)) (fun _ _ _ _ _ => pg_name (i := 9) scStrange.nd rfl (Or.inl rfl))
                (fun _ _ _ _ _ => by exact (pts_one (pt_cmpR (op_inC hu) (pv 9) (pe_tupF (pa_cons pe_int (pa_cons pe_int pa_nil))) (by rfl)))) (fun _ _ _ _ _ => by exact (pv 9))) (pe_lst pa_nil) (nomark _))
              (pss_one (ps_expr (pe_bm0 PySem.F.plainAttrs_list PySem.F.slot_list_pop PySem.F.type_list_pop mt_pop (pv 6)))) pss_nil)
          (pss_one (ps_set (i := 6) scStrange.nd rfl (Or.inl rfl) (pe_op op_cat (pv 6) (pe_lc (own := [("_law_other", 10)]) (g := gName 10) (tt := tAnd (tTest (tOp rNe (tVar 10) (tOp (rIxT K) (tVar 2) (tC (.int 0))))) (tTest (tOp (rInR K true) (tVar 7) (tCall spRowsOfL [] E0 (tCons (tVar 1) (tCons (tVar 10) tNil)))))) (te := tTupF (tCons (tVar 10) (tCons (tVar 7) tNil))) rfl scStrange.nd (pi_list (pv 5))
                (blkOk_by (N := ["_law_source_here", "_law_world_here", "_law_some", "_law_rows", "_law_row_here", "_law_names", "_law_found", "_law_one", "_law_pair", "_law_value", "_law_other"]) (sc := defScope sStrange) (by decide +kernel)) (fun _ _ _ _ _ => pg_name (i := 10) scStrange.nd rfl (Or.inl rfl))
                (fun _ _ _ _ _ => by exact (pts_one (PW.pt (pw_and (pt_cmpR op_ne (pv 10) (pe_ix ix_tup (pv 2) pe_int (fun _ _ => rfl)) (nomark _)) (pw_and1 (pt_cmpR (op_notInR hu) (pv 7) (pe_call GRo hr1 rfl cRo.g cRo.k bRo .nil pass0 (pa_cons (pv 1) (pa_cons (pv 10) pa_nil))) (by rfl)))))))
                (fun _ _ _ _ _ => by exact (pe_tupF (pa_cons (pv 10) (pa_cons (pv 7) pa_nil))))))))))))
      (pss_cons (ps_if (pt_cmpR (op_notInR hu) (pv 4) (pv 3) (by rfl)) (pss_one (ps_expr (pe_bm PySem.F.plainAttrs_list PySem.F.slot_list_append PySem.F.type_list_append mt_append (pv 6) (pa_cons (pe_tupF (pa_cons (pe_ix ix_tup (pv 2) pe_int (fun _ _ => rfl)) (pa_cons (pv 4) pa_nil))) pa_nil)))) pss_nil)
      (pss_one (ps_ret (pv 6)))))))), ?_⟩
    have okt : ∀ t ∈ ts, t.ok := fun t m => (wn.ok t m).g
    have offw := off w List.mem_cons_self
    have lts : ps.length ≤ 3 := by
      rw [wl.lp]
      exact wn.few
    have lt1 : 0 < ps.length := by
      rw [wl.lp]
      exact wn.one
    refine ⟨_, rfl, _, rfl, a, l, .ref w, ms, z, b, rfl, hs, b0, by omega, .inl ⟨w, ps.map V.ref, rfl, fun H' kk => SqL.of (kk _ _ offw.1 offw.2 wl.hw), by rw [List.length_map]; exact lt1, by rw [List.length_map]; omega, fun H1 ms1 v k1 hs1 hv => ?_⟩⟩
    obtain ⟨p0, hp0, rfl⟩ := List.mem_map.mp hv
    obtain ⟨i, hi⟩ := List.mem_iff_getElem?.mp hp0
    have wl1 := wl.keep (fun c m o e => k1 _ _ (off c m).1 (off c m).2 e) (k1.fz hs)
    have ilt : i < ts.length := by
      rw [← wl.lp]
      exact (List.getElem?_eq_some_iff.mp hi).1
    obtain ⟨p0', rl, ti, rs, ep, erl, et, er, sm, vs, hp, ha, hrl, hrs⟩ := wl1.at ilt
    rw [hi] at ep
    obtain rfl := Option.some.inj ep
    have tok := okt ti (List.mem_of_getElem? et)
    have src := wn.src ti (List.mem_of_getElem? et)
    refine ⟨p0, [.ref sm, .ref rl], rfl, SqL.of hp, rfl, _, _, rfl, _, _, rfl, rfl, ?_⟩
    refine ⟨_, rfl, _, rfl, a, l, sm, ms1, z, b + 1, ti, rfl, hs1, by omega, by omega, ha, tok, fun H2 ms2 b2 vR r k2 hs2 c1 c2 hvR rk => ?_⟩
    have k02 := k1.trans k2
    have wl2 := wl.keep (fun c m o e => k02 _ _ (off c m).1 (off c m).2 e) (k02.fz hs)
    -- the names
    refine ⟨_, rfl, w, rfl, ⟨_, SqL.of wl2.hw⟩, fun Nm hNm => ?_⟩
    refine lc_list (K := K) (a := w) (xs := ps.map V.ref) (fun j H' => Same H2 H' ∧ H' Nm = some (.lst (((ts.map Ti.nm).take j).map V.str))) ⟨same_upd hNm, upd_same⟩ (fun j H' _ z => SqL.of (z.1 _ _ wl2.hw)) ?_ ?_
    · rintro j y H3 hj ⟨s3, e3⟩
      have jlt : j < ts.length := by
        have := (List.getElem?_eq_some_iff.mp hj).1
        rw [List.length_map, wl2.lp] at this
        exact this
      obtain ⟨pj, rlj, tj, rsj, f1, _, f3, _, smj, vsj, h0, ⟨oj, b1', b2', b3', hsj, hodj, _⟩, _, _⟩ := wl2.at jlt
      rw [List.getElem?_map, f1] at hj
      obtain rfl := Option.some.inj hj
      refine ⟨rfl, ?_⟩
      dsimp only [tYes]
      rw [if_pos rfl]
      refine ⟨_, rfl, pj, _, 0, .ref smj, rfl, rfl, SqL.of (s3 _ _ h0), rfl, smj, _, 0, .str tj.nm, rfl, rfl, .inl (.inr ⟨oj, s3 _ _ hsj⟩), rfl, _, e3, ?_, fun c u e => ?_, ?_⟩
      · rw [List.length_map, List.length_take, List.length_map]
        have := wn.few
        omega
      · rw [upd_ne (ne_of_none e hNm)]
        exact s3 c u e
      · rw [upd_same, List.take_add_one, List.getElem?_map, f3]
        simp
    rintro H3 ⟨s3, e3⟩
    rw [List.length_map, wl2.lp, ← List.length_map (f := Ti.nm), List.take_length] at e3
    refine ⟨_, _, rfl, ?_⟩
    have eNm := e3
    have hs3 := hs2.but s3
    have k03 := k02.trans (But.of_same (s := a) (l := l) s3)
    have wl3 := wl2.same s3
    obtain ⟨p1, rl1, ti1, rs1, g1, g2, g3, g4, sm1, vs1, hp3, ha3, hrl3, hrs3⟩ := wl3.at ilt
    rw [hi] at g1
    obtain rfl := Option.some.inj g1
    rw [erl] at g2
    obtain rfl := Option.some.inj g2
    rw [et] at g3
    obtain rfl := Option.some.inj g3
    rw [er] at g4
    obtain rfl := Option.some.inj g4
    have ha1 : ArgT H3 sm ti := ha.fz ((k2.fz hs1).trans (Fz.of_same s3))
    obtain ⟨oa, q1, q2, q3, hsm, hoa, _⟩ := ha1
    have sm3 : SqT K H3 sm [.str ti.nm, .ref q1, .ref q2, .ref q3] := .inl (.inr ⟨oa, hsm⟩)
    have orl := off rl (List.mem_cons_of_mem _ (List.mem_append_right _ (List.mem_of_getElem? erl)))
    have dR3 : DP K H3 (fun _ => True) vR (rowT r) 1 := ((hvR.keep (Fz.of_same s3)).dpF rk.sm).imp fun _ _ => trivial
    have R : ∀ {H'}, Same H3 H' → DP K H' (fun _ => True) vR (rowT r) 1 := fun s' => dR3.same s'
    have N : ∀ {H' : Hp} {n : Nat}, DP K H' (fun _ => True) (.str ti.nm) (.str ti.nm) n := DP.nm tok.n1
    have wR := rk.w tok
    have wN := (nm_text tok.n1).1
    have wcells := cells_w rk.sm
    have ll := rk.ok.len
    have lc4 : r.length ≤ 4 := by
      have := tok.l2
      have := tok.l3
      omega
    have ne0 : ∀ t ∈ ts, 0 < t.ss.length + t.zs.length := fun t m => by
      have := (okt t m).ne
      rw [List.length_append] at this
      exact this
    show tSeq _ _ _ _ H3
    -- the first values
    refine new_dp (K := K) (ts := []) (n := 0) (by show 0 ≤ sizeLine; omega) .nil fun v1 H4 s4 d1 => ?_
    refine ⟨_, rfl, sm, _, 0, .str ti.nm, rfl, rfl, sameT s4 sm3, rfl, ?_⟩
    refine new_dp (K := K) (ts := [.str ti.nm]) (n := 0) (by show 1 ≤ sizeLine; omega) (.cons N .nil) fun v2 H5 s5 d2 => ?_
    have t5 := s4.trans s5
    refine ⟨_, rfl, _, rfl, sm, _, 0, .str ti.nm, rfl, rfl, sameT t5 sm3, rfl, _, rfl, ?_⟩
    refine ⟨by show 2 ≤ sizeLine; omega, fun p3 hp3 => ?_⟩
    have s6 := same_upd (o := .lst [V.str ti.nm, vR]) hp3
    have c3 : DPs K H5 (fun _ => True) [V.str ti.nm, vR] [.str ti.nm, rowT r] 1 := .cons N (.cons (R t5) .nil)
    have d3 := c3.lst hp3 trivial
    have t6 := t5.trans s6
    refine ⟨_, rfl, sm, _, 0, .str ti.nm, rfl, rfl, sameT t6 sm3, rfl, _, rfl, fun _ => True, vR, r.map Cell.t, 0, rfl, R t6, fun _ _ => trivial, fun v4 H7 s7 d4 => ?_⟩
    have t7 := t6.trans s7
    refine new_dp (K := K) (ts := [.str ti.nm, .lst (r.map Cell.t)]) (n := 1) (by show 2 ≤ sizeLine; omega) (.cons N (.cons d4 .nil)) fun v5 H8 s8 d5 => ?_
    have t8 := t7.trans s8
    refine ⟨_, rfl, sm, _, 0, .str ti.nm, rfl, rfl, sameT t8 sm3, rfl, _, rfl, _, rfl, ?_⟩
    refine new_dp (K := K) (ts := [.str ti.nm, rowT r, rowT r]) (n := 1) (by show 3 ≤ sizeLine; omega) (.cons N (.cons (R t8) (.cons (R t8) .nil))) fun v6 H9 s9 d6 => ?_
    have t9 := t8.trans s9
    refine ⟨_, rfl, _, rfl, sm, _, 0, .str ti.nm, rfl, rfl, sameT t9 sm3, rfl, ?_⟩
    refine new_dp (K := K) (ts := [rowT r, .str ti.nm]) (n := 1) (by show 2 ≤ sizeLine; omega) (.cons (R t9) (.cons N .nil)) fun v7 H10 s10 d7 => ?_
    have t10 := t9.trans s10
    refine ⟨by show 8 ≤ sizeLine; omega, fun F0 hF0 => ?_⟩
    have D10 : DPs K H10 (fun _ => True) [.non, v1, v2, vR, .ref p3, v5, v6, v7] [.non, .tup [], .tup [.str ti.nm], rowT r, .lst [.str ti.nm, rowT r], .tup [.str ti.nm, .lst (r.map Cell.t)], .tup [.str ti.nm, rowT r, rowT r], .tup [rowT r, .str ti.nm]] 3 :=
      .cons .non (.cons ((d1.same (s5.trans (s6.trans (s7.trans (s8.trans (s9.trans s10)))))).lvl (by decide)) (.cons ((d2.same (s6.trans (s7.trans (s8.trans (s9.trans s10))))).lvl (by decide)) (.cons ((R t10).lvl (by decide)) (.cons ((d3.same (s7.trans (s8.trans (s9.trans s10)))).lvl (by decide))
        (.cons ((d5.same (s9.trans s10)).lvl (by decide)) (.cons ((d6.same s10).lvl (by decide)) (.cons (d7.lvl (by decide)) .nil)))))))
    have nots0 : Nots ts (rss.map sortR) [.non, .tup [], .tup [.str ti.nm], rowT r, .lst [.str ti.nm, rowT r], .tup [.str ti.nm, .lst (r.map Cell.t)], .tup [.str ti.nm, rowT r, rowT r], .tup [rowT r, .str ti.nm]] := by
      refine .cons rfl (by decide) (.cons rfl (by decide) (.cons rfl ?_ (.cons (has_cells r) (by omega) (.cons rfl ?_ (.cons (has_noRow fun _ _ => rfl) ?_ (.cons rfl ?_ (.cons (has_noName fun _ _ => rfl) ?_ .nil)))))))
      · show 3 + (((reprText ti.nm).length + 2) + 0) ≤ 3000
        omega
      · show 3 + (((reprText ti.nm).length + 2) + (((rowT r).w + 2) + 0)) ≤ 3000
        omega
      · show 3 + (((reprText ti.nm).length + 2) + (((3 + ws (r.map Cell.t)) + 2) + 0)) ≤ 3000
        omega
      · show 3 + (((reprText ti.nm).length + 2) + (((rowT r).w + 2) + (((rowT r).w + 2) + 0))) ≤ 3000
        omega
      · show 3 + (((rowT r).w + 2) + (((reprText ti.nm).length + 2) + 0)) ≤ 3000
        omega
    have s11 := same_upd (o := .lst [.non, v1, v2, vR, .ref p3, v5, v6, v7]) hF0
    have e11 : upd H10 F0 (.lst [.non, v1, v2, vR, .ref p3, v5, v6, v7]) F0 = some (.lst [.non, v1, v2, vR, .ref p3, v5, v6, v7]) := upd_same
    have D11 := free_dps (o := .lst [.non, v1, v2, vR, .ref p3, v5, v6, v7]) hF0 D10
    show tSeq _ _ _ _ (upd H10 F0 (.lst [.non, v1, v2, vR, .ref p3, v5, v6, v7]))
    generalize upd H10 F0 (.lst [.non, v1, v2, vR, .ref p3, v5, v6, v7]) = H11 at s11 e11 D11 ⊢
    have t11 := t10.trans s11
    obtain ⟨x1, x2, x3⟩ := ext_fits ti.nm src
    -- more of them
    refine ⟨_, rfl, _, rfl, sm, _, 0, .str ti.nm, rfl, rfl, sameT t11 sm3, rfl, ti.nm, "x", rfl, rfl, by omega, _, rfl, ?_⟩
    refine new_dp (K := K) (ts := [.str (ti.nm ++ "x"), rowT r]) (n := 1) (by show 2 ≤ sizeLine; omega) (.cons (.str (by omega) (by omega)) (.cons (R t11) .nil)) fun u1 H12 s12 f1 => ?_
    have t12 := t11.trans s12
    refine ⟨_, rfl, ?_⟩
    refine new_dp (K := K) (ts := [.non, rowT r]) (n := 1) (by show 2 ≤ sizeLine; omega) (.cons .non (.cons (R t12) .nil)) fun u2 H13 s13 f2 => ?_
    have t13 := t12.trans s13
    refine ⟨_, rfl, sm, _, 0, .str ti.nm, rfl, rfl, sameT t13 sm3, rfl, ?_⟩
    refine new_dp (K := K) (ts := []) (n := 0) (by show 0 ≤ sizeLine; omega) .nil fun u3 H14 s14 f3 => ?_
    have t14 := t13.trans s14
    refine new_dp (K := K) (ts := [.str ti.nm, .tup []]) (n := 1) (by show 2 ≤ sizeLine; omega) (.cons N (.cons f3 .nil)) fun u4 H15 s15 f4 => ?_
    have t15 := t14.trans s15
    refine ⟨_, rfl, sm, _, 0, .str ti.nm, rfl, rfl, sameT t15 sm3, rfl, ?_⟩
    refine new_dp (K := K) (ts := [.str ti.nm, .non]) (n := 0) (by show 2 ≤ sizeLine; omega) (.cons N (.cons .non .nil)) fun u5 H16 s16 f5 => ?_
    have t16 := t15.trans s16
    refine fun u6 H17 s17 f6 => ?_
    have t17 := t16.trans s17
    refine ⟨by show 1 ≤ sizeLine; omega, fun u7 hu7 => ?_⟩
    have s18 := same_upd (o := .lst [V.str (Str.ofString "t")]) hu7
    have c7 : DPs K H17 (fun _ => True) [V.str (Str.ofString "t")] [.str "t"] 0 := .cons (.str (by decide +kernel) (by decide +kernel)) .nil
    have f7 := c7.lst hu7 trivial
    have t18 := t17.trans s18
    refine ⟨_, rfl, ?_⟩
    refine new_dp (K := K) (ts := [.lst [.str "t"], rowT r]) (n := 1) (by show 2 ≤ sizeLine; omega) (.cons f7 (.cons (R t18) .nil)) fun u8 H19 s19 f8 => ?_
    have t19 := t18.trans s19
    refine ⟨by show 7 ≤ sizeLine; omega, fun q hq => ?_⟩
    have D19 : DPs K H19 (fun _ => True) [u1, u2, u4, u5, u6, u8, .int 0] [.tup [.str (ti.nm ++ "x"), rowT r], .tup [.non, rowT r], .tup [.str ti.nm, .tup []], .tup [.str ti.nm, .non], .dct [] [], .tup [.lst [.str "t"], rowT r], .int 0] 3 :=
      .cons ((f1.same (s13.trans (s14.trans (s15.trans (s16.trans (s17.trans (s18.trans s19))))))).lvl (by decide)) (.cons ((f2.same (s14.trans (s15.trans (s16.trans (s17.trans (s18.trans s19)))))).lvl (by decide)) (.cons ((f4.same (s16.trans (s17.trans (s18.trans s19)))).lvl (by decide))
        (.cons ((f5.same (s17.trans (s18.trans s19))).lvl (by decide)) (.cons (((f6.imp fun _ _ => trivial).same (s18.trans s19)).lvl (by decide)) (.cons (f8.lvl (by decide)) (.cons (.int (by decide)) .nil))))))
    have nots1 : Nots ts (rss.map sortR) [.tup [.str (ti.nm ++ "x"), rowT r], .tup [.non, rowT r], .tup [.str ti.nm, .tup []], .tup [.str ti.nm, .non], .dct [] [], .tup [.lst [.str "t"], rowT r], .int 0] := by
      refine .cons (has_noName fun t m => ?_) ?_ (.cons (has_noName fun _ _ => rfl) ?_ (.cons (has_noRow fun t m => isRow_len ?_) ?_ (.cons (has_noRow fun _ _ => rfl) ?_ (.cons rfl (by decide +kernel) (.cons (has_noName fun _ _ => rfl) ?_ (.cons rfl (by decide +kernel) .nil))))))
      · show ((ti.nm ++ "x" : Str) == t.nm) = false
        exact beq_eq_false_iff_ne.mpr (nm_ext _ src _ (wn.src t m))
      · show 3 + (((reprText (ti.nm ++ "x")).length + 2) + (((rowT r).w + 2) + 0)) ≤ 3000
        omega
      · show 3 + ((4 + 2) + (((rowT r).w + 2) + 0)) ≤ 3000
        omega
      · have := ne0 t m
        show (0 : Nat) ≠ _
        omega
      · show 3 + (((reprText ti.nm).length + 2) + (((3 + 0) + 2) + 0)) ≤ 3000
        omega
      · show 3 + (((reprText ti.nm).length + 2) + ((4 + 2) + 0)) ≤ 3000
        omega
      · have h : (Tr.lst [.str "t"]).w ≤ 100 := by decide +kernel
        show 3 + (((Tr.lst [.str "t"]).w + 2) + (((rowT r).w + 2) + 0)) ≤ 3000
        omega
    have sq := same_upd (o := .lst [u1, u2, u4, u5, u6, u8, .int 0]) hq
    have s1119 : Same H11 H19 := s12.trans (s13.trans (s14.trans (s15.trans (s16.trans (s17.trans (s18.trans s19))))))
    refine ⟨F0, q, _, _, rfl, rfl, sq _ _ (s1119 _ _ e11), upd_same, by show 8 + 7 ≤ sizeLine; omega, fun L hL => ?_⟩
    have DL := cat_dps (o := .lst ([.non, v1, v2, vR, .ref p3, v5, v6, v7] ++ [u1, u2, u4, u5, u6, u8, .int 0])) hL (D11.same (s1119.trans sq)) (D19.same sq)
    have tL := (t19.trans sq).trans (same_upd (o := .lst ([.non, v1, v2, vR, .ref p3, v5, v6, v7] ++ [u1, u2, u4, u5, u6, u8, .int 0])) hL)
    have kS : ∀ {H' : Hp}, Same H3 H' → SqT K H' sm [.str ti.nm, .ref q1, .ref q2, .ref q3] := fun s' => sameT s' sm3
    have rkr := (wi.rk i ti rs et er).1
    refine ⟨_, rfl, rl, rfl, ⟨_, SqL.of (tL _ _ hrl3)⟩, for_list (K := K) (a := rl) (xs := vs1) (fun j σ' H' => ∃ (Fk : Addr) (xs : List V) (us : List Tr) (v7 v8 v9 v10 : Option V), σ' = [some (.ref a), some (.ref w), some (.ref sm), some (.ref rl), some vR, some (.ref Nm), some (.ref Fk), v7, v8, v9, v10] ∧ Same H3 H' ∧ H3 Fk = none ∧ H' Fk = some (.lst xs) ∧ DPs K H' (fun c => c ≠ Fk) xs us 3 ∧ Nots ts (rss.map sortR) us ∧ us.length ≤ 15 + 7 * j)
      ⟨L, _, _, _, _, _, _, rfl, tL, (t19.trans sq).free hL, upd_same, DL, nots0.append nots1, by show 15 ≤ 15; omega⟩ (fun j σ' H' _ z => by
        obtain ⟨Fk, xs, us, v7, v8, v9, v10, _, s', _⟩ := z
        exact SqL.of (s' _ _ hrl3)) ?_ ?_⟩
    · rintro j y σ' H' hj ⟨Fk, xs, us, v7', v8', v9', v10', rfl, s', f0, fk, ds, nt, ln⟩
      obtain ⟨r', er', hy3⟩ := each_get hrs3 hj
      have jl : j < 12 := by
        have h1 := (List.getElem?_eq_some_iff.mp er').1
        have h2 := (wi.rk i ti rs et er).2
        omega
      have rk' := rkr r' (List.mem_of_getElem? er')
      have wR' := rk'.w tok
      have ll' := rk'.ok.len
      have len4 : r'.length ≤ 4 := by
        have := tok.l2
        have := tok.l3
        omega
      have dy3 : DP K H3 (fun _ => True) y (rowT r') 1 := (hy3.dpF rk'.sm).imp fun _ _ => trivial
      have Y : ∀ {G}, Same H3 G → DP K G (fun _ => True) y (rowT r') 1 := fun g => dy3.same g
      have n0 := ne0 ti (List.mem_of_getElem? et)
      have xl := ds.length
      -- the first three
      refine ⟨_, rfl, _, rfl, sm, _, 0, .str ti.nm, rfl, rfl, kS s', rfl, ?_⟩
      refine ⟨_, rfl, _, rfl, 1, rfl, fun _ => True, r'.map Cell.t, 0, Y s', fun _ _ => trivial, fun c1 G1 g1 e1 => ?_⟩
      rw [cutL_take1] at e1
      refine ⟨fun _ => True, _, _, 0, Y (s'.trans g1), e1, ?_, fun _ _ => trivial, fun c2 G2 g2 e2 => ?_⟩
      · rw [List.length_take, List.length_map]
        omega
      have z2 := (s'.trans g1).trans g2
      refine new_dp (K := K) (ts := [.str ti.nm, .tup (r'.map Cell.t ++ (r'.map Cell.t).take 1)]) (n := 1) (by show 2 ≤ sizeLine; omega) (.cons N (.cons e2 .nil)) fun b1 G3 g3 e3 => ?_
      have z3 := z2.trans g3
      refine ⟨_, rfl, sm, _, 0, .str ti.nm, rfl, rfl, kS z3, rfl, ?_⟩
      refine ⟨_, rfl, 1, rfl, fun _ => True, r'.map Cell.t, 0, Y z3, fun _ _ => trivial, fun c4 G4 g4 e4 => ?_⟩
      rw [cutL_drop1] at e4
      have z4 := z3.trans g4
      refine new_dp (K := K) (ts := [.str ti.nm, .tup ((r'.map Cell.t).drop 1)]) (n := 1) (by show 2 ≤ sizeLine; omega) (.cons N (.cons e4 .nil)) fun b2 G5 g5 e5 => ?_
      have z5 := z4.trans g5
      refine ⟨_, rfl, sm, _, 0, .str ti.nm, rfl, rfl, kS z5, rfl, _, rfl, ?_⟩
      refine ⟨by show 2 ≤ sizeLine; omega, fun p6 hp6 => ?_⟩
      have g6 := same_upd (o := .lst [V.str ti.nm, y]) hp6
      have c6 : DPs K G5 (fun _ => True) [V.str ti.nm, y] [.str ti.nm, rowT r'] 1 := .cons N (.cons (Y z5) .nil)
      have e6 := c6.lst hp6 trivial
      have z6 := z5.trans g6
      refine ⟨by show 3 ≤ sizeLine; omega, fun q7 hq7 => ?_⟩
      have E6 : DPs K (upd G5 p6 (.lst [V.str ti.nm, y])) (fun _ => True) [b1, b2, .ref p6] [.tup [.str ti.nm, .tup (r'.map Cell.t ++ (r'.map Cell.t).take 1)], .tup [.str ti.nm, .tup ((r'.map Cell.t).drop 1)], .lst [.str ti.nm, rowT r']] 3 :=
        .cons ((e3.same (g4.trans (g5.trans g6))).lvl (by decide)) (.cons ((e5.same g6).lvl (by decide)) (.cons (e6.lvl (by decide)) .nil))
      have notsA : Nots ts (rss.map sortR) [.tup [.str ti.nm, .tup (r'.map Cell.t ++ (r'.map Cell.t).take 1)], .tup [.str ti.nm, .tup ((r'.map Cell.t).drop 1)], .lst [.str ti.nm, rowT r']] := by
        have wc : ws (r'.map Cell.t) = ws ((r'.map Cell.t).take 1) + ws ((r'.map Cell.t).drop 1) := by rw [← ws_append, List.take_append_drop]
        have wr : (rowT r').w = 3 + ws (r'.map Cell.t) := rfl
        have other : ∀ cs : List Tr, cs.length ≠ ti.ss.length + ti.zs.length → hasT ts (rss.map sortR) (.tup [.str ti.nm, .tup cs]) = false := fun cs hc => has_pair fun i' ti' rs' fi et' _ => by
          rw [first_nm wn.nd et] at fi
          cases fi
          rw [et] at et'
          cases et'
          rw [isRow_len hc, Bool.false_and]
        refine .cons (other _ ?_) ?_ (.cons (other _ ?_) ?_ (.cons rfl ?_ .nil))
        · rw [List.length_append, List.length_take, List.length_map]
          omega
        · show 3 + (((reprText ti.nm).length + 2) + ((3 + ws (r'.map Cell.t ++ (r'.map Cell.t).take 1) + 2) + 0)) ≤ 3000
          rw [ws_append]
          omega
        · rw [List.length_drop, List.length_map]
          omega
        · show 3 + (((reprText ti.nm).length + 2) + ((3 + ws ((r'.map Cell.t).drop 1) + 2) + 0)) ≤ 3000
          omega
        · show 3 + (((reprText ti.nm).length + 2) + (((rowT r').w + 2) + 0)) ≤ 3000
          omega
      have g7 := same_upd (o := .lst [b1, b2, .ref p6]) hq7
      have sFk : Same H' (upd (upd G5 p6 (.lst [V.str ti.nm, y])) q7 (.lst [b1, b2, .ref p6])) := g1.trans (g2.trans (g3.trans (g4.trans (g5.trans (g6.trans g7)))))
      refine ⟨Fk, q7, _, _, rfl, rfl, sFk _ _ fk, upd_same, ?_, fun L2 hL2 => ?_⟩
      · show xs.length + 3 ≤ sizeLine
        omega
      have DA := cat_dps (o := .lst (xs ++ [b1, b2, .ref p6])) hL2 (ds.same sFk) (E6.same g7)
      have z8 := (s'.trans sFk).trans (same_upd (o := .lst (xs ++ [b1, b2, .ref p6])) hL2)
      have f8 := (s'.trans sFk).free hL2
      have u8 : upd (upd (upd G5 p6 (.lst [V.str ti.nm, y])) q7 (.lst [b1, b2, .ref p6])) L2 (.lst (xs ++ [b1, b2, .ref p6])) L2 = some (.lst (xs ++ [b1, b2, .ref p6])) := upd_same
      show tSeq _ _ _ _ (upd (upd (upd G5 p6 (.lst [V.str ti.nm, y])) q7 (.lst [b1, b2, .ref p6])) L2 (.lst (xs ++ [b1, b2, .ref p6])))
      generalize upd (upd (upd G5 p6 (.lst [V.str ti.nm, y])) q7 (.lst [b1, b2, .ref p6])) L2 (.lst (xs ++ [b1, b2, .ref p6])) = G8 at DA z8 u8 ⊢
      -- bools for 0 and 1
      refine ⟨_, rfl, _, rfl, sm, _, 0, .str ti.nm, rfl, rfl, kS z8, rfl, ?_⟩
      obtain ⟨pa, oa', rfl, hpa, hoa'⟩ := hy3
      have kP : ∀ {H'' : Hp}, Same H3 H'' → SqT K H'' pa (r'.map Cell.v) := fun g => .inl (.inr ⟨oa', g _ _ hpa⟩)
      refine ⟨_, rfl, pa, rfl, ⟨_, kP z8⟩, fun D1 hD1 => ?_⟩
      refine lc_tup (K := K) (a := pa) (xs := r'.map Cell.v) (fun k H'' => Same G8 H'' ∧ H'' D1 = some (.lst ((r'.take k).map bentV))) ⟨same_upd hD1, upd_same⟩ (fun k H'' _ z => kP (z8.trans z.1)) ?_ ?_
      · rintro k x H'' hk ⟨gk, ek⟩
        rw [List.getElem?_map] at hk
        obtain ⟨c, hc, rfl⟩ : ∃ c, r'[k]? = some c ∧ c.v = x := by
          cases hc : r'[k]? with
          | none =>
            rw [hc] at hk
            cases hk
          | some c =>
            rw [hc] at hk
            exact ⟨c, rfl, Option.some.inj hk⟩
        have kl := (List.getElem?_eq_some_iff.mp hc).1
        have nx : ∀ H9, Same H'' H9 → H9 D1 = some (.lst ((r'.take k).map bentV)) → Same G8 (upd H9 D1 (.lst ((r'.take k).map bentV ++ [bentV c]))) ∧ upd H9 D1 (.lst ((r'.take k).map bentV ++ [bentV c])) D1 = some (.lst ((r'.take (k + 1)).map bentV)) := fun H9 g9 e9 => ⟨fun b u e => by
          rw [upd_ne (ne_of_none e hD1)]
          exact g9 _ _ (gk b u e), by
          rw [upd_same, List.take_add_one, hc]
          simp⟩
        have sz : ((r'.take k).map bentV).length < sizeLine := by
          rw [List.length_map, List.length_take]
          omega
        refine ⟨rfl, ?_⟩
        dsimp only [tYes]
        rw [if_pos rfl]
        refine ⟨_, rfl, by show 2 ≤ sizeLine; omega, fun pt ot hpt hot => ?_⟩
        have gp := same_upd (o := .frz ot (.tup [V.int 0, V.int 1])) hpt
        refine ⟨c, pt, [.i 0, .i 1], rfl, rfl, .inl (.inr ⟨ot, upd_same⟩), _, rfl, ?_⟩
        cases hb : is01 c with
        | true =>
          have hb' : decide (c ∈ [Cell.i 0, Cell.i 1]) = true := hb
          rw [hb']
          refine iteT ⟨_, rfl, by cases c <;> rfl, (r'.take k).map bentV, gp _ _ ek, sz, ?_⟩
          have ev : V.bl (decide (c.v = V.int 1)) = bentV c := by
            unfold bentV
            rw [if_pos hb]
            refine congrArg V.bl (decide_eq_decide.mpr ?_)
            cases c <;> simp [Cell.v]
          rw [ev]
          exact nx _ gp (gp _ _ ek)
        | false =>
          have hb' : decide (c ∈ [Cell.i 0, Cell.i 1]) = false := hb
          rw [hb']
          refine iteF ⟨_, rfl, (r'.take k).map bentV, gp _ _ ek, sz, ?_⟩
          have ev : c.v = bentV c := by
            unfold bentV
            rw [if_neg (by rw [hb]; exact Bool.false_ne_true)]
          rw [ev]
          exact nx _ gp (gp _ _ ek)
      rintro G9 ⟨g9, e9⟩
      rw [List.length_map, List.take_length] at e9
      have z9 := z8.trans g9
      have dbent : DPs K G9 (fun _ => True) (r'.map bentV) (r'.map bent) 0 := bent_dps rk'.sm
      refine ⟨D1, _, rfl, SqL.of e9, fun pb ob hpb hob => ?_⟩
      have g10 := same_upd (o := .frz ob (.tup (r'.map bentV))) hpb
      have dpb := dbent.tup hpb trivial hob
      refine new_dp (K := K) (ts := [.str ti.nm, .tup (r'.map bent)]) (n := 1) (by show 2 ≤ sizeLine; omega) (.cons N (.cons dpb .nil)) fun b3 G11 g11 e11' => ?_
      have z11 := (z9.trans g10).trans g11
      refine ⟨by show 1 ≤ sizeLine; omega, fun q12 hq12 => ?_⟩
      have g12 := same_upd (o := .lst [b3]) hq12
      have sB : Same G8 (upd G11 q12 (.lst [b3])) := g9.trans (g10.trans (g11.trans g12))
      refine ⟨L2, q12, _, _, rfl, rfl, sB _ _ u8, upd_same, ?_, fun L3 hL3 => ?_⟩
      · show (xs ++ [b1, b2, .ref p6]).length + 1 ≤ sizeLine
        rw [List.length_append]
        show xs.length + 3 + 1 ≤ sizeLine
        omega
      have DB := cat_dps (o := .lst ((xs ++ [b1, b2, .ref p6]) ++ [b3])) hL3 (DA.same sB) ((DPs.cons (e11'.lvl (show 2 ≤ 3 by decide)) .nil).same g12)
      have DC := free_dps (o := .lst ((xs ++ [b1, b2, .ref p6]) ++ [b3])) hL3 (DA.same sB)
      have z13 := (z8.trans sB).trans (same_upd (o := .lst ((xs ++ [b1, b2, .ref p6]) ++ [b3])) hL3)
      have f13 := (z8.trans sB).free hL3
      have u13 : upd (upd G11 q12 (.lst [b3])) L3 (.lst ((xs ++ [b1, b2, .ref p6]) ++ [b3])) L3 = some (.lst ((xs ++ [b1, b2, .ref p6]) ++ [b3])) := upd_same
      dsimp only
      rw [gName_ap]
      generalize upd (upd G11 q12 (.lst [b3])) L3 (.lst ((xs ++ [b1, b2, .ref p6]) ++ [b3])) = G13 at DB DC z13 u13 ⊢
      -- not if there is no 0 and no 1
      have xl3 : (xs ++ [b1, b2, .ref p6]).length = xs.length + 3 := by
        rw [List.length_append]
        rfl
      refine if_join (fun σ'' H'' => ∃ (Fk2 : Addr) (xs2 : List V) (us2 : List Tr) (w8 w9 w10 : Option V), σ'' = [some (.ref a), some (.ref w), some (.ref sm), some (.ref rl), some vR, some (.ref Nm), some (.ref Fk2), some (.ref pa), w8, w9, w10] ∧ Same H3 H'' ∧ H3 Fk2 = none ∧ H'' Fk2 = some (.lst xs2) ∧ DPs K H'' (fun c => c ≠ Fk2) xs2 us2 3 ∧ Nots ts (rss.map sortR) us2 ∧ us2.length ≤ 19 + 7 * j) ?_ (fun rest => ?_)
      rotate_left
      · refine ⟨_, rfl, pa, rfl, ⟨_, kP z13⟩, fun D2 hD2 => ?_⟩
        refine lc_tup (K := K) (a := pa) (xs := r'.map Cell.v) (fun k H'' => Same G13 H'' ∧ H'' D2 = some (.lst (((r'.take k).filter is01).map Cell.v))) ⟨same_upd hD2, upd_same⟩ (fun k H'' _ z => kP (z13.trans z.1)) ?_ ?_
        · rintro k x H'' hk ⟨gk, ek⟩
          rw [List.getElem?_map] at hk
          obtain ⟨c, hc, rfl⟩ : ∃ c, r'[k]? = some c ∧ c.v = x := by
            cases hc : r'[k]? with
            | none =>
              rw [hc] at hk
              cases hk
            | some c =>
              rw [hc] at hk
              exact ⟨c, rfl, Option.some.inj hk⟩
          have et1 : r'.take (k + 1) = r'.take k ++ [c] := by
            rw [List.take_add_one, hc]
            rfl
          refine ⟨rfl, ?_⟩
          refine ⟨_, rfl, by show 2 ≤ sizeLine; omega, fun pt ot hpt hot => ?_⟩
          have gp := same_upd (o := .frz ot (.tup [V.int 0, V.int 1])) hpt
          refine ⟨c, pt, [.i 0, .i 1], rfl, rfl, .inl (.inr ⟨ot, upd_same⟩), _, rfl, ?_⟩
          cases hb : is01 c with
          | true =>
            have hb' : decide (c ∈ [Cell.i 0, Cell.i 1]) = true := hb
            rw [hb']
            refine iteT ⟨_, rfl, _, gp _ _ ek, ?_, fun b u e => ?_, ?_⟩
            · have h1 := List.length_filter_le is01 (r'.take k)
              rw [List.length_take] at h1
              rw [List.length_map]
              omega
            · rw [upd_ne (ne_of_none e hD2)]
              exact gp _ _ (gk b u e)
            · rw [upd_same, et1, List.filter_append, List.filter_cons_of_pos hb]
              simp
          | false =>
            have hb' : decide (c ∈ [Cell.i 0, Cell.i 1]) = false := hb
            rw [hb']
            refine iteF ⟨gk.trans gp, ?_⟩
            rw [gp _ _ ek, et1, List.filter_append, List.filter_cons_of_neg (by rw [hb]; exact Bool.false_ne_true)]
            simp
        rintro G14 ⟨g14, e14⟩
        rw [List.length_map, List.take_length] at e14
        refine ⟨by show 0 ≤ sizeLine; omega, fun pe hpe => ?_⟩
        have g15 := same_upd (o := .lst []) hpe
        refine ⟨.list ((r'.filter is01).map Cell.d), .list [], .lst (SqL.of (g15 _ _ e14)) (cellsDp _), .lst (SqL.of upd_same) .nil, cells_plain _, rfl, ?_, ?_⟩
        · show PyData.depthAll ((r'.filter is01).map Cell.d) + 1 ≤ 6
          rw [cells_depth]
          omega
        have z15 := (z13.trans g14).trans g15
        have g135 := g14.trans g15
        cases hf : r'.filter is01 with
        | nil =>
          refine ⟨_, rfl, iteT ⟨_, rfl, .inl ⟨rfl, _, SqL.of (g135 _ _ u13)⟩, L3, (xs ++ [b1, b2, .ref p6]) ++ [b3], b3, rfl, rfl, g135 _ _ u13, ?_, ?_⟩⟩
          · rw [List.length_append]
            show ((xs ++ [b1, b2, .ref p6]) ++ [b3])[(xs ++ [b1, b2, .ref p6]).length + 1 - 1]? = some b3
            rw [Nat.add_sub_cancel, List.getElem?_append_right (Nat.le_refl _), Nat.sub_self]
            rfl
          refine rest _ _ ⟨L3, xs ++ [b1, b2, .ref p6], us ++ _, _, _, _, rfl, fun b u e => ?_, f13, ?_, (DC.same g135).keep fun b o hb e => ?_, nt.append notsA, ?_⟩
          · rw [upd_ne (ne_of_none e f13)]
            exact z15 b u e
          · rw [upd_same, List.dropLast_concat]
          · rw [upd_ne hb]
            exact e
          · rw [List.length_append]
            show us.length + 3 ≤ 19 + 7 * j
            omega
        | cons c cs =>
          refine ⟨_, rfl, iteF ?_⟩
          have hne : r'.filter is01 ≠ [] := by
            rw [hf]
            exact List.cons_ne_nil _ _
          refine rest _ _ ⟨L3, (xs ++ [b1, b2, .ref p6]) ++ [b3], (us ++ _) ++ _, _, _, _, rfl, z15, f13, g135 _ _ u13, DB.same g135, (nt.append notsA).append (.cons (bent_row hne) ?_ .nil), ?_⟩
          · have wb : ws (r'.map bent) ≤ 102 * r'.length := bents_w rk'.sm
            show 3 + (((reprText ti.nm).length + 2) + ((3 + ws (r'.map bent) + 2) + 0)) ≤ 3000
            omega
          · rw [List.length_append, List.length_append]
            show us.length + 3 + 1 ≤ 19 + 7 * j
            omega
      rintro σ'' H'' ⟨Fk2, xs2, us2, w8, w9, w10, rfl, z20, f20, u20, D20, n20, l20⟩
      -- the row in the other tables
      have lx2 := D20.length
      refine ⟨_, rfl, _, rfl, Nm, rfl, ⟨_, SqL.of (z20 _ _ eNm)⟩, fun D3 hD3 => ?_⟩
      refine lc_list (K := K) (a := Nm) (xs := (ts.map Ti.nm).map V.str) (fun k G => Same H'' G ∧ ∃ (xk : List V) (tk : List Tr), G D3 = some (.lst xk) ∧ DPs K G (fun c => c ≠ D3) xk tk 3 ∧ Nots ts (rss.map sortR) tk ∧ tk.length ≤ k) ⟨same_upd hD3, [], [], upd_same, .nil, .nil, Nat.zero_le _⟩ (fun k G _ z => SqL.of ((z20.trans z.1) _ _ eNm)) ?_ ?_
      · rintro k x G hk ⟨gk, xk, tk, ek, dk, nk, lk⟩
        obtain ⟨tm, htm, rfl⟩ : ∃ tm, ts[k]? = some tm ∧ V.str tm.nm = x := by
          rw [List.getElem?_map, List.getElem?_map] at hk
          cases htm : ts[k]? with
          | none =>
            rw [htm] at hk
            cases hk
          | some tm =>
            rw [htm] at hk
            exact ⟨tm, rfl, Option.some.inj hk⟩
        have klt := (List.getElem?_eq_some_iff.mp htm).1
        have zk := z20.trans gk
        have tmok := okt tm (List.mem_of_getElem? htm)
        refine ⟨rfl, ?_⟩
        refine ⟨_, rfl, _, rfl, sm, _, 0, .str ti.nm, rfl, rfl, kS zk, rfl, rfl, _, rfl, ?_⟩
        cases hd : decide (V.str tm.nm = V.str ti.nm) with
        | true => exact ⟨gk, xk, tk, ek, dk, nk, by omega⟩
        | false =>
          refine iteT ?_
          refine ⟨_, rfl, _, rfl, _, rfl, w, ps, rls, ts, rss, k, tm, rfl, wl3.same zk, wn.nd, htm, fun G2 rl2 erl2 g2 => ?_⟩
          obtain ⟨pk, rlk, tk', rsk, _, q2, q3, q4, smk, vsk, _, _, hrlk, hrsk⟩ := ((wl3.same zk).same g2).at klt
          rw [erl2] at q2
          obtain rfl := Option.some.inj q2
          rw [htm] at q3
          obtain rfl := Option.some.inj q3
          have zk2 := zk.trans g2
          refine ⟨r', rl2, vsk, rsk, ⟨pa, oa', rfl, zk2 _ _ hpa, hoa'⟩, rfl, .inr (SqL.of hrlk), hrsk, _, rfl, ?_⟩
          cases hm : decide (r' ∈ rsk) with
          | true => exact ⟨gk.trans g2, xk, tk, g2 _ _ ek, dk.same g2, nk, by omega⟩
          | false =>
            refine iteT ⟨_, rfl, _, rfl, by show 2 ≤ sizeLine; omega, fun pt ot hpt hot => ?_⟩
            have gp := same_upd (o := .frz ot (.tup [V.str tm.nm, .ref pa])) hpt
            have ptD : pt ≠ D3 := fun e => by
              rw [e, g2 _ _ ek] at hpt
              cases hpt
            have dY : DP K G2 (fun c => c ≠ D3) (.ref pa) (rowT r') 1 := ((Y z20).there.imp (Q := fun c => c ≠ D3) fun c h => by
              obtain ⟨_, _, q⟩ := h
              exact ne_of_none q hD3).same (gk.trans g2)
            have cpt : DPs K G2 (fun c => c ≠ D3) [.str tm.nm, .ref pa] [.str tm.nm, rowT r'] 1 := .cons (.nm tmok.n1) (.cons dY .nil)
            have dpt := cpt.tup hpt ptD hot
            have lxk := dk.length
            have few := wn.few
            refine ⟨_, gp _ _ (g2 _ _ ek), ?_, fun b u e => ?_, xk ++ [.ref pt], tk ++ [.tup [.str tm.nm, rowT r']], upd_same, ((((dk.same g2).same gp).append (.cons (dpt.lvl (show 2 ≤ 3 by decide)) .nil)).keep fun b o hb e => ?_), nk.append (.cons (has_pair fun i' ti' rs' fi et' er' => ?_) ?_ .nil), ?_⟩
            · omega
            · rw [upd_ne (ne_of_none e hD3)]
              exact gp _ _ (g2 _ _ (gk b u e))
            · rw [upd_ne hb]
              exact e
            · rw [first_nm wn.nd htm] at fi
              cases fi
              rw [List.getElem?_map, q4] at er'
              obtain rfl := Option.some.inj er'
              rw [toRow_rowT]
              have nm : ¬ r' ∈ sortR rsk := fun m => of_decide_eq_false hm ((sortR_perm rsk).mem_iff.mp m)
              rw [decide_eq_false nm, Bool.and_false]
            · have wm := (nm_text tmok.n1).1
              show 3 + (((reprText tm.nm).length + 2) + (((rowT r').w + 2) + 0)) ≤ 3000
              omega
            · rw [List.length_append]
              show tk.length + 1 ≤ k + 1
              omega
      rintro G30 ⟨g30, xk, tk, ek, dk, nk, lk⟩
      rw [List.length_map, List.length_map] at lk
      have few := wn.few
      have lxk := dk.length
      refine ⟨Fk2, D3, _, _, rfl, rfl, g30 _ _ u20, ek, ?_, fun L4 hL4 => ?_⟩
      · omega
      refine ⟨L4, xs2 ++ xk, us2 ++ tk, _, _, _, _, rfl, (z20.trans g30).trans (same_upd hL4), (z20.trans g30).free hL4, upd_same, cat_dps hL4 (D20.same g30) dk, n20.append nk, ?_⟩
      rw [List.length_append]
      omega
    rintro σ' H' ⟨Fk, xs, us, v7', v8', v9', v10', rfl, s', f0, fk, ds, nt, ln⟩
    have lv := hrs3.length
    have lr12 := (wi.rk i ti rs et er).2
    have lxs := ds.length
    have f0' := k03.back hs3 f0
    have vr3 := hvR.keep (Fz.of_same s3)
    refine ⟨_, rfl, _, rfl, r, rl, vs1, rs, vr3.keep (Fz.of_same s'), rfl, .inr (SqL.of (s' _ _ hrl3)), hrs3.keep (Fz.of_same s'), _, rfl, ?_⟩
    cases hm : decide (r ∈ rs) with
    | true =>
      refine iteF ⟨_, rfl, k H' ms2 _ Fk xs us (k03.trans (But.of_same s')) (hs3.but s') (by omega) (by omega) fk f0' (ds.imp fun _ _ => trivial) nt (by omega)⟩
    | false =>
      refine iteT ?_
      refine ⟨_, rfl, .inl ⟨rfl, _, SqL.of fk⟩, _, rfl, sm, _, 0, .str ti.nm, rfl, rfl, kS s', rfl, _, rfl, by show 2 ≤ sizeLine; omega, fun pt ot hpt hot => ?_⟩
      have gp := same_upd (o := .frz ot (.tup [V.str ti.nm, vR])) hpt
      have ptF : pt ≠ Fk := fun e => by
        rw [e, fk] at hpt
        cases hpt
      have dV : DP K H' (fun c => c ≠ Fk) vR (rowT r) 1 := (dR3.there.imp (Q := fun c => c ≠ Fk) fun c h => by
        obtain ⟨_, _, q⟩ := h
        exact ne_of_none q f0).same s'
      have cpt : DPs K H' (fun c => c ≠ Fk) [.str ti.nm, vR] [.str ti.nm, rowT r] 1 := .cons (.nm tok.n1) (.cons dV .nil)
      have dpt := cpt.tup hpt ptF hot
      refine ⟨Fk, xs, _, rfl, rfl, gp _ _ fk, by omega, ?_⟩
      have sF : Same H3 (upd (upd H' pt (.frz ot (.tup [V.str ti.nm, vR]))) Fk (.lst (xs ++ [.ref pt]))) := fun b u e => by
        rw [upd_ne (ne_of_none e f0)]
        exact gp _ _ (s' b u e)
      refine ⟨_, rfl, k _ ms2 _ Fk (xs ++ [.ref pt]) (us ++ [.tup [.str ti.nm, rowT r]]) (k03.trans (But.of_same sF)) (hs3.but sF) (by omega) (by omega) upd_same f0' ((((ds.same gp).append (.cons (dpt.lvl (show 2 ≤ 3 by decide)) .nil)).keep fun b o hb e => ?_).imp fun _ _ => trivial) (nt.append (.cons (has_pair fun i' ti' rs' fi et' er' => ?_) ?_ .nil)) ?_⟩
      · rw [upd_ne hb]
        exact e
      · rw [first_nm wn.nd et] at fi
        cases fi
        rw [List.getElem?_map, er] at er'
        obtain rfl := Option.some.inj er'
        rw [toRow_rowT]
        have nm : ¬ r ∈ sortR rs := fun m => of_decide_eq_false hm ((sortR_perm rs).mem_iff.mp m)
        rw [decide_eq_false nm, Bool.and_false]
      · show 3 + (((reprText ti.nm).length + 2) + (((rowT r).w + 2) + 0)) ≤ 3000
        omega
      · rw [List.length_append]
        show us.length + 1 ≤ 500
        omega
end
end Vm
/-! what a call of do is given: changes of the tables -/
namespace Vm
open PySem L2
/-- one more table, with its rows -/
theorem Wl.snocR {H H' : Hp} {w p rl sm : Addr} {ps rls : List Addr} {ts : List Ti} {rss : List (List Row)} {t : Ti} {vs : List V} {rs : List Row} (h : Wl H w ps rls ts rss) (k : ∀ b ∈ ps ++ rls, ∀ o, H b = some o → H' b = some o) (fz : Fz H H') (hw : H' w = some (.lst ((ps ++ [p]).map V.ref)))
    (hp : H' p = some (.lst [.ref sm, .ref rl])) (ha : ArgT H' sm t) (hr : H' rl = some (.lst vs)) (hrs : RowsAt H' vs rs) (n1 : p ∉ w :: (ps ++ rls)) (n2 : rl ∉ w :: (ps ++ rls)) (n3 : p ≠ rl) : Wl H' w (ps ++ [p]) (rls ++ [rl]) (ts ++ [t]) (rss ++ [rs]) := by
  refine ⟨hw, by rw [List.length_append, List.length_append, h.lp]; rfl, by rw [List.length_append, List.length_append, h.lr]; rfl, by rw [List.length_append, List.length_append, h.ls]; rfl, ?_, ?_⟩
  · intro i p' rl' t' rs' e1 e2 e3 e4
    by_cases lt : i < ts.length
    · rw [List.getElem?_append_left (by rw [h.lp]; exact lt)] at e1
      rw [List.getElem?_append_left (by rw [h.lr]; exact lt)] at e2
      rw [List.getElem?_append_left lt] at e3
      rw [List.getElem?_append_left (by rw [h.ls]; exact lt)] at e4
      exact (h.pr i p' rl' t' rs' e1 e2 e3 e4).keep (fun o e => k p' (List.mem_append_left _ (List.mem_of_getElem? e1)) o e) (fun o e => k rl' (List.mem_append_right _ (List.mem_of_getElem? e2)) o e) fz
    · have l3 := (List.getElem?_eq_some_iff.mp e3).1
      rw [List.length_append] at l3
      have ei : i = ts.length := by
        have : ([t] : List Ti).length = 1 := rfl
        omega
      subst ei
      rw [List.getElem?_append_right (by rw [h.lp]; exact Nat.le_refl _), h.lp, Nat.sub_self] at e1
      rw [List.getElem?_append_right (by rw [h.lr]; exact Nat.le_refl _), h.lr, Nat.sub_self] at e2
      rw [List.getElem?_append_right (Nat.le_refl _), Nat.sub_self] at e3
      rw [List.getElem?_append_right (by rw [h.ls]; exact Nat.le_refl _), h.ls, Nat.sub_self] at e4
      obtain rfl := Option.some.inj e1
      obtain rfl := Option.some.inj e2
      obtain rfl := Option.some.inj e3
      obtain rfl := Option.some.inj e4
      exact ⟨sm, vs, hp, ha, hr, hrs⟩
  · have nd := h.nd
    have pm : (w :: ((ps ++ [p]) ++ (rls ++ [rl]))).Perm (p :: rl :: (w :: (ps ++ rls))) := by
      have a1 : ((ps ++ [p]) ++ (rls ++ [rl])).Perm (p :: (ps ++ (rls ++ [rl]))) := by
        rw [List.append_assoc]
        exact List.perm_middle
      have a2 : (ps ++ (rls ++ [rl])).Perm (rl :: (ps ++ rls)) := by
        rw [← List.append_assoc]
        exact List.perm_append_singleton _ _
      have a3 := (a1.trans (a2.cons p)).cons w
      exact a3.trans ((List.Perm.swap _ _ _).trans ((List.Perm.swap _ _ _).cons p))
    rw [pm.nodup_iff, List.nodup_cons, List.nodup_cons]
    refine ⟨fun m => ?_, n2, nd⟩
    rcases List.mem_cons.mp m with e | m
    · exact n3 e
    · exact n1 m
/-- a change of one of the tables -/
def ChgAt (H : Hp) (ts : List Ti) (v : V) (u : Tr) : Prop := ∃ (p : Addr) (kd : Str) (i : Nat) (ti : Ti) (us : List Row), v = .ref p ∧ DeedAt H p kd ti.nm us ∧ ts[i]? = some ti ∧ (∀ r ∈ us, Rk ti r) ∧ lenV kd = .int ((us.length + 2 : Nat) : Int) ∧ u = .tup (deedL kd ti.nm us)
abbrev ChgsAt (H : Hp) (ts : List Ti) : List V → List Tr → Prop := PySem.W.EachIs (ChgAt H ts)
theorem ChgAt.fz {H H' : Hp} {ts : List Ti} {v : V} {u : Tr} (h : ChgAt H ts v u) (k : Fz H H') : ChgAt H' ts v u :=
  let ⟨p, kd, i, ti, us, a, b, c, d, e, f⟩ := h; ⟨p, kd, i, ti, us, a, b.fz k, c, d, e, f⟩
theorem ChgAt.chg {H : Hp} {ts : List Ti} {rss : List (List Row)} {v : V} {u : Tr} (nd : (ts.map Ti.nm).Nodup) (ls : rss.length = ts.length) (h : ChgAt H ts v u) : isChg ts u = true := by
  obtain ⟨p, kd, i, ti, us, _, _, et, rk, hl, rfl⟩ := h
  have lt : i < rss.length := by
    rw [ls]
    exact (List.getElem?_eq_some_iff.mp et).1
  exact (deed_chg nd et (List.getElem?_eq_getElem lt) (fun r m => (rk r m).ok) hl).1
theorem ChgAt.w {H : Hp} {ts : List Ti} {v : V} {u : Tr} (okt : ∀ t ∈ ts, t.ok) (h : ChgAt H ts v u) : u.w ≤ 1003 := by
  obtain ⟨p, kd, i, ti, us, _, _, et, rk, hl, rfl⟩ := h
  have := deed_w (okt ti (List.mem_of_getElem? et)) rk hl
  show 3 + Vm.ws _ ≤ 1003
  omega
theorem ChgAt.dpF {K : PySem.W.Frag} {H : Hp} {ts : List Ti} {v : V} {u : Tr} (okt : ∀ t ∈ ts, t.ok) (h : ChgAt H ts v u) : DP K H (FrzAt H) v u 2 := by
  obtain ⟨p, kd, i, ti, us, rfl, ⟨o, xs, e, d, r⟩, et, rk, hl, rfl⟩ := h
  obtain ⟨k1, k2, k3⟩ := kd_text hl
  have hn := (okt ti (List.mem_of_getElem? et)).n1
  obtain ⟨bs, x1, x2⟩ := rows_bs (K := K) r fun r m => (rk r m).sm
  have b1 := (nm_text hn).1
  have b2 := (nm_text hn).2
  refine ⟨p :: ([] ++ ([] ++ bs)), .tup e d (.cons (.str (Nat.le_trans k1 (by decide)) (Nat.le_trans k2 (by decide))) (.cons (.str (Nat.le_trans b1 (by decide)) (Nat.le_trans b2 (by decide))) x1)) fun m => ?_, fun c m => ?_⟩
  · obtain ⟨o', r', e'⟩ := x2 p m
    rw [e] at e'
    have e2 := (HO.frz.inj (Option.some.inj e')).2
    have e3 : V.str kd :: V.str ti.nm :: xs = r'.map Cell.v := by
      injection e2
    have l0 : 0 < xs.length := by
      rw [r.length]
      omega
    obtain ⟨x, hx⟩ := List.exists_mem_of_length_pos l0
    have hx2 : x ∈ r'.map Cell.v := by
      rw [← e3]
      exact List.mem_cons_of_mem _ (List.mem_cons_of_mem _ hx)
    obtain ⟨c, _, rfl⟩ := List.mem_map.mp hx2
    obtain ⟨i, hi⟩ := List.mem_iff_getElem?.mp hx
    obtain ⟨y, _, pp, _, e5, _⟩ := each_get r hi
    cases c <;> cases e5
  · rcases List.mem_cons.mp m with m | m
    · rw [m]
      exact ⟨o, _, e⟩
    · obtain ⟨o', r', e'⟩ := x2 c m
      exact ⟨o', _, e'⟩
theorem ChgsAt.fz {H H' : Hp} {ts : List Ti} {vs : List V} {us : List Tr} (h : ChgsAt H ts vs us) (k : Fz H H') : ChgsAt H' ts vs us := h.mono fun _ _ z => z.fz k
theorem ChgsAt.dpsF {K : PySem.W.Frag} {H : Hp} {ts : List Ti} (okt : ∀ t ∈ ts, t.ok) : ∀ {vs : List V} {us : List Tr}, ChgsAt H ts vs us → DPs K H (FrzAt H) vs us 2
  | _, _, .nil => .nil
  | _, _, .cons h t => .cons (h.dpF okt) (ChgsAt.dpsF okt t)
theorem ChgsAt.ws {H : Hp} {ts : List Ti} (okt : ∀ t ∈ ts, t.ok) : ∀ {vs : List V} {us : List Tr}, ChgsAt H ts vs us → Vm.ws us ≤ 1005 * us.length
  | _, _, .nil => Nat.zero_le _
  | _, u :: us, .cons h t => by
    have a := h.w okt
    have b := ChgsAt.ws okt t
    show (u.w + 2) + Vm.ws us ≤ 1005 * (us.length + 1)
    omega
theorem ChgsAt.chg {H : Hp} {ts : List Ti} {rss : List (List Row)} {vs : List V} {us : List Tr} (nd : (ts.map Ti.nm).Nodup) (ls : rss.length = ts.length) (h : ChgsAt H ts vs us) : ∀ u ∈ us, isChg ts u = true := by
  intro u m
  obtain ⟨i, e⟩ := List.mem_iff_getElem?.mp m
  have lt : i < vs.length := by
    rw [h.length]
    exact (List.getElem?_eq_some_iff.mp e).1
  obtain ⟨u', e', c⟩ := each_get h (List.getElem?_eq_getElem lt)
  rw [e] at e'
  obtain rfl := Option.some.inj e'
  exact c.chg nd ls
theorem ChgAt.dp' {K : PySem.W.Frag} {H : Hp} {ts : List Ti} {v : V} {u : Tr} (h : ChgAt H ts v u) : ∃ d, Dp K H v d ∧ d.plain = true ∧ d.depth ≤ 2 := by
  obtain ⟨p, kd, i, ti, us, rfl, ⟨o, xs, e, d, r⟩, et, rk, hl, rfl⟩ := h
  refine ⟨.tuple (.str kd :: .str ti.nm :: us.map rowD), .tup (.inl (.inr ⟨o, e⟩)) (.cons (.str _) (.cons (.str _) (rows_dp r))), ?_, ?_⟩
  · show (true && (true && PyData.plainAll (us.map rowD))) = true
    rw [rows_plain]
    rfl
  · have h2 := rows_depth us
    simp only [PyData.depth, PyData.depthAll]
    omega
theorem ChgsAt.dps' {K : PySem.W.Frag} {H : Hp} {ts : List Ti} : ∀ {vs : List V} {us : List Tr}, ChgsAt H ts vs us → ∃ ds, DpAll K H vs ds ∧ ds.length = us.length ∧ PyData.plainAll ds = true ∧ PyData.depthAll ds ≤ 2
  | _, _, .nil => ⟨[], .nil, rfl, rfl, Nat.zero_le _⟩
  | _, _, .cons h t => by
    obtain ⟨d, a1, a2, a3⟩ := h.dp' (K := K)
    obtain ⟨ds, b1, b2, b3, b4⟩ := ChgsAt.dps' (K := K) t
    refine ⟨d :: ds, .cons a1 b1, by simp [b2], ?_, ?_⟩
    · show (d.plain && PyData.plainAll ds) = true
      rw [a2, b3]
      rfl
    · show Nat.max d.depth (PyData.depthAll ds) ≤ 2
      exact Nat.max_le.mpr ⟨a3, b4⟩
/-- a list of changes beside the empty list -/
theorem chgs_ne {K : PySem.W.Frag} {H : Hp} {ts : List Ti} {D q : Addr} {vs : List V} {us : List Tr} {Q : VK} (h : ChgsAt H ts vs us) (eD : H D = some (.lst vs)) (eq : H q = some (.lst [])) (k : Q (.bl (decide (us.length ≠ 0))) H) : rEqP K true (.ref D) (.ref q) H Q := by
  obtain ⟨ds, b1, b2, b3, b4⟩ := h.dps' (K := K)
  refine ⟨.list ds, .list [], .lst (SqL.of eD) b1, .lst (SqL.of eq) .nil, b3, rfl, ?_, ?_⟩
  · simp only [PyData.depth]
    omega
  · have e : (!PyData.eqv (.list ds) (.list [])) = decide (us.length ≠ 0) := by
      cases ds with
      | nil =>
        rw [← b2]
        rfl
      | cons d ds =>
        rw [← b2]
        rfl
    show Q (.bl (!PyData.eqv (.list ds) (.list []))) H
    rw [e]
    exact k
/-- the text of bools -/
theorem bls_ws : ∀ bs : List Bool, Vm.ws (bs.map Tr.bl) ≤ 7 * bs.length
  | [] => Nat.zero_le _
  | b :: bs => by
    have := bls_ws bs
    show (5 + 2) + Vm.ws (bs.map Tr.bl) ≤ 7 * (bs.length + 1)
    omega
theorem bls_dts {K : PySem.W.Frag} {H : Hp} {P : Addr → Prop} {n : Nat} : ∀ bs : List Bool, DPs K H P (bs.map V.bl) (bs.map Tr.bl) n
  | [] => .nil
  | b :: bs => .cons (.bl b) (bls_dts bs)
theorem bls_dp {K : PySem.W.Frag} {H : Hp} {q : Addr} {o : Obj} {bs : List Bool} (e : H q = some (.frz o (.tup (bs.map V.bl)))) (d : o.dict = none) : ∃ cs, Dt K H (.ref q) (.tup (bs.map Tr.bl)) 1 cs := by
  have h : ∀ bs : List Bool, DtAll K H (bs.map V.bl) (bs.map Tr.bl) 0 [] := by
    intro bs
    induction bs with
    | nil => exact .nil
    | cons b bs ih => exact .cons (.bl b) ih
  exact ⟨_, .tup e d (h bs) List.not_mem_nil⟩
/-- everything but some lists and a dict -/
def BK (a l rd : Addr) (ps : List Addr) (H H' : Hp) : Prop := ∀ b o, b ≠ a → b ≠ l → b ≠ rd → b ∉ ps → H b = some o → H' b = some o
theorem BK.of_but {a l rd : Addr} {ps : List Addr} {H H' : Hp} (k : But a l H H') : BK a l rd ps H H' := fun b o n1 n2 _ _ e => k b o n1 n2 e
theorem BK.trans {a l rd : Addr} {ps : List Addr} {H H1 H2 : Hp} (x : BK a l rd ps H H1) (y : BK a l rd ps H1 H2) : BK a l rd ps H H2 := fun b o n1 n2 n3 n4 e => y b o n1 n2 n3 n4 (x b o n1 n2 n3 n4 e)
theorem BK.of_same {a l rd : Addr} {ps : List Addr} {H H' : Hp} (k : Same H H') : BK a l rd ps H H' := fun b o _ _ _ _ e => k b o e
end Vm
/-! the law: whether the store has the rows that are kept -/
namespace Vm
open PySem L2
abbrev sIsSo : Stmt := top 59
def spIsSo (K : PySem.W.Frag) (C CT : Addr) : Sp := fun vs H Q _ => ∃ (st dx tp rd : Addr) (wv : List V) (qs : List Addr) (w : Addr) (ps rls : List Addr) (ts : List Ti) (rss : List (List Row)), vs = [.ref st, .ref w] ∧
  StAt K H C CT st dx tp rd wv ts qs (rss.map sortR) ∧ Wl H w ps rls ts rss ∧ Wn ts ∧ WInv ts rss ∧ ∀ H', Same H H' → Q (.bl true) H'
theorem count_take : ∀ (rss : List (List Row)) (i : Nat), countOf (rss.take i) ≤ countOf rss
  | [], _ => by simp [countOf]
  | _ :: _, 0 => Nat.zero_le _
  | r :: rss, i + 1 => Nat.add_le_add_left (count_take rss i) r.length
theorem int_text12 {n : Nat} (h : n ≤ 12) : (Tr.int ((n : Nat) : Int)).text.length ≤ 10 := by
  have : ∀ m : Nat, m < 13 → (Tr.int ((m : Nat) : Int)).text.length ≤ 10 := by decide +kernel
  exact this n (by omega)
section
variable {P : Program} {w : World} {K : PySem.W.Frag} {mg : Str → Option Value} {base : Heap} {C CT CU fNm fNms fTO fRO fIC fIP fTo fW fH fL : Addr}
theorem scIsSo : FnScope ["_law_store_here", "_law_world_here", "_law_told_here", "_law_walked", "_law_some", "_law_rows", "_law_ascending", "_law_row_here", "_law_pair"] ["_law_store_here", "_law_world_here"] (defScope sIsSo) := ⟨rfl, rfl, rfl, by decide +kernel, rfl, by decide +kernel, by decide +kernel⟩
theorem has_mono {K : PySem.W.Frag} {C CT : Addr} {E : XK} {vs : List V} {H : Hp} {Q Q' : VK} (m : ∀ z H', Q z H' → Q' z H') (h : spSHas K C CT vs H Q E) : spSHas K C CT vs H Q' E := by
  obtain ⟨st, dx, tp, rd, ws, ts, qs, rss, v, t, n, bs, e, a, b, c, d, k⟩ := h
  exact ⟨st, dx, tp, rd, ws, ts, qs, rss, v, t, n, bs, e, a, b, c, d, fun H' s' => m _ _ (k H' s')⟩
theorem ok_isso {f : Addr} {fd fdTo fdR fdW fdH fdL : FuncData} (F : Fun K "_law_is_so" "_law_is_so" sIsSo f fd) (T : TxtP K mg fNm fNms) (rp : mg "repr" = none) (zp : mg "zip" = none) (S : TxtS K mg C fTO fRO fIC fIP)
    (cTo : Calls K mg "_law_told" fTo) (GTo : FnOk P w K mg base CX0 1 fTo fdTo ["_law_world_here"] (spTold K)) (bTo : Binds K fdTo ["_law_world_here"] [])
    (GRO : FnOk P w K mg base (L2.CX P w) 4 fRO fdR ["self", "name"] (spRowsOf K C CT CU)) (bRO : Binds K fdR ["self", "name"] [])
    (mW : Meth K C "walk" fW) (GW : HFn P w K mg base 2 fW fdW ["self"] (spWalk K C CT)) (bW : Binds K fdW ["self"] [])
    (aH : PySem.W.findIn K (.ref C) "__contains__" = some (some (.ref fH))) (tH : PySem.W.typeIn K (.ref fH) = some (.type "function")) (GH : FnOk P w K mg base CX0 3 fH fdH ["self", "thing"] (spSHas K C CT)) (bH : Binds K fdH ["self", "thing"] [])
    (aL : PySem.W.findIn K (.ref C) "__len__" = some (some (.ref fL))) (tL : PySem.W.typeIn K (.ref fL) = some (.type "function")) (GL : FnOk P w K mg base CX0 1 fL fdL ["self"] (spSLen K C CT)) (bL : Binds K fdL ["self"] []) :
    FnG P w K mg base CX0 6 f fd ["_law_store_here", "_law_world_here"] (spIsSo K C CT) := by
  refine okG0 F scIsSo (fun vs H Q E h => ?_) (fun cdv A outer s H vs Q E ag hr h => ?_)
  · obtain ⟨st, dx, tp, rd, wv, qs, w, ps, rls, ts, rss, rfl, _⟩ := h
    rfl
  · obtain ⟨st, dx, tp, rd, wv, qs, w, ps, rls, ts, rss, rfl, sa, wl, wn, wi, k⟩ := h
    have hr1 : Room 1 _ := hr.mono (by decide)
    have hr2 : Room 2 _ := hr.mono (by decide)
    have hr3 : Room 3 _ := hr.mono (by decide)
    have hr4 : Room 4 _ := hr.mono (by decide)
    have hu : (A.deeper (PyProof.Rows.envOfC "_law_is_so" (defScope sIsSo) s.heap.objs.size f cdv)).units + 16 < cLine := by
      have := hr.units
      omega
    have hu8 : (A.deeper (PyProof.Rows.envOfC "_law_is_so" (defScope sIsSo) s.heap.objs.size f cdv)).units + 8 < cLine := by omega
    have big : sizeLine > 100000 := by decide
    refine ⟨_, pss_cons (ps_par (i := 2) (j := 3) rfl scIsSo.nd rfl rfl (by decide) rfl rfl (pa_cons (pe_call GTo hr1 rfl cTo.g cTo.k bTo .nil pass0 (pa_cons (pv 1) pa_nil)) (pa_cons (pe_lst pa_nil) pa_nil)) (by rfl))
      (pss_cons (ps_if (pt_cmpR op_ne (pe_callB (call_reprT ag hu) (by rfl) rp (by decide +kernel) (pa_cons (pe_lc (own := [("_law_some", 4), ("_law_rows", 5)]) (g := gLst K 2 (gCons (gName 4) (gCons (gName 5) gNil))) (tt := tYes) (te := tMeth C "rows_of" (spRowsOf K C CT CU) [] (fun _ _ _ => False) (tVar 0) (tCons (tOp (rIxT K) (tVar 4) (tC (.int 0))) tNil)) rfl scIsSo.nd (pi_list (pv 1))
              (blkOk_by (N := ["_law_store_here", "_law_world_here", "_law_told_here", "_law_walked", "_law_some", "_law_rows", "_law_ascending", "_law_row_here", "_law_pair"]) (sc := defScope sIsSo) (by decide +kernel))
              (fun _ _ _ _ _ => by exact (pg_lst rfl (by exact (pgs_cons (pg_name (i := 4) scIsSo.nd rfl (Or.inl rfl)) (by exact (pgs_cons (pg_name (i := 5) scIsSo.nd rfl (Or.inl rfl)) pgs_nil)))))) (fun _ _ _ _ _ => pts_nil)
              (fun _ _ _ _ _ => by exact (pe_meth (E := fun _ _ _ => False) (pv 0) S.cl S.mRO GRO hr4 bRO .nil passF (pa_cons (pe_ix ix_tup (pv 4) pe_int (fun _ _ => rfl)) pa_nil)))) pa_nil))
            (pe_callB (call_reprT ag hu) (by rfl) rp (by decide +kernel) (pa_cons (pv 2) pa_nil)) (nomark _)) (pss_one (ps_ret pe_bl)) pss_nil)
      (pss_cons (ps_for PassesOwn.never rfl (pi_zip (by rfl) zp (pa_cons (pv 1) (pa_cons (pv 2) pa_nil))) (pg_tup rfl (pgs_cons (pg_lst rfl (pgs_cons (pg_name (i := 4) scIsSo.nd rfl (Or.inr rfl)) (pgs_cons (pg_name (i := 5) scIsSo.nd rfl (Or.inl rfl)) pgs_nil))) (pgs_cons (pg_name (i := 6) scIsSo.nd rfl (Or.inl rfl)) pgs_nil)))
          (pss_cons (ps_set (i := 3) scIsSo.nd rfl (Or.inl rfl) (pe_op op_cat (pv 3) (pe_lc (own := [("_law_row_here", 7)]) (g := gName 7) (tt := tYes) (te := tTupF (tCons (tOp (rIxT K) (tVar 4) (tC (.int 0))) (tCons (tVar 7) tNil))) rfl scIsSo.nd (pi_tup (pv 6))
              (blkOk_by (N := ["_law_store_here", "_law_world_here", "_law_told_here", "_law_walked", "_law_some", "_law_rows", "_law_ascending", "_law_row_here", "_law_pair"]) (sc := defScope sIsSo) (by decide +kernel))
              (fun _ _ _ _ _ => pg_name (i := 7) scIsSo.nd rfl (Or.inl rfl)) (fun _ _ _ _ _ => pts_nil) (fun _ _ _ _ _ => by exact (pe_tupF (pa_cons (pe_ix ix_tup (pv 4) pe_int (fun _ _ => rfl)) (pa_cons (pv 7) pa_nil)))))))
          (pss_one (ps_if (pt_cmpR (op_neP hu8) (pe_lc (own := [("_law_row_here", 7)]) (g := gName 7) (tt := tTest (tOp (rInOwn C (spSHas K C CT) (fun _ _ _ => False) true) (tTupF (tCons (tOp (rIxT K) (tVar 4) (tC (.int 0))) (tCons (tVar 7) tNil))) (tVar 0))) (te := tVar 7) rfl scIsSo.nd (pi_list (pv 5))
              (blkOk_by (N := ["_law_store_here", "_law_world_here", "_law_told_here", "_law_walked", "_law_some", "_law_rows", "_law_ascending", "_law_row_here", "_law_pair"]) (sc := defScope sIsSo) (by decide +kernel))
              (fun _ _ _ _ _ => pg_name (i := 7) scIsSo.nd rfl (Or.inl rfl)) (fun _ _ _ _ _ => by exact (pts_one (pt_cmpR (op_notInOwn aH tH (GH.byPlace bH) hr3 pass0 has_mono) (pe_tupF (pa_cons (pe_ix ix_tup (pv 4) pe_int (fun _ _ => rfl)) (pa_cons (pv 7) pa_nil))) (pv 0) (by rfl)))) (fun _ _ _ _ _ => by exact (pv 7))) (pe_lst pa_nil) (nomark _))
            (pss_one (ps_ret pe_bl)) pss_nil))))
      (pss_one (ps_ret (pe_and (pe_cmpR op_eq (pe_callB (call_reprT ag hu) (by rfl) rp (by decide +kernel) (pa_cons (pe_lcH (ph_meth0 (pv 0) S.cl mW GW hr2 bW) hr rfl (by decide) rfl) pa_nil)) (pe_callB (call_reprT ag hu) (by rfl) rp (by decide +kernel) (pa_cons (pv 3) pa_nil)) (nomark _))
        (pe_one (pe_cmpR op_eq (pe_callB (call_reprT ag hu) (by rfl) rp (by decide +kernel) (pa_cons (pe_callB (call_lenOwn aL tL (GL.byPlace bL) hr2 pass0) (by rfl) T.len (by decide +kernel) (pa_cons (pv 0) pa_nil)) pa_nil)) (pe_callB (call_reprT ag hu) (by rfl) rp (by decide +kernel) (pa_cons (pe_callB call_len_seq (by rfl) T.len (by decide +kernel) (pa_cons (pv 3) pa_nil)) pa_nil)) (nomark _)))))))), ?_⟩
    have okt : ∀ t ∈ ts, t.ok := fun t m => (wn.ok t m).g
    have few3 := wn.few
    have wis := wi.sort
    have lrs : (rss.map sortR).length = ts.length := by rw [← sa.rw.length, sa.lq]
    have lr0 : rss.length = ts.length := by rw [← lrs, List.length_map]
    have one := row_one wn wis lrs
    have lq := sa.lq
    have lens : ∀ rs ∈ rss.map sortR, rs.length ≤ 12 := fun rs m => by
      obtain ⟨i, e⟩ := List.mem_iff_getElem?.mp m
      exact Nat.le_trans (count_le e) wis.cnt
    have sm2 : ∀ rs ∈ rss.map sortR, ∀ r ∈ rs, ∀ c ∈ r, smallC c = true := fun rs m r hr => (one rs m r hr).1
    -- the texts are short
    have tt : (Tr.lst ((rss.map sortR).map fun rs => .tup (rs.map rowT))).text.length ≤ sizeLine := by
      have a := Tr.text_le (.lst ((rss.map sortR).map fun rs => .tup (rs.map rowT)))
      have b := tups_w (rss := rss.map sortR) fun rs m r hr => (one rs m r hr).2
      have c : (Tr.lst ((rss.map sortR).map fun rs => .tup (rs.map rowT))).w = 3 + ws ((rss.map sortR).map fun rs => .tup (rs.map rowT)) := rfl
      have d := wis.cnt
      omega
    have prs : ∀ p ∈ pairsOf ts (rss.map sortR), nmS p.1 = true ∧ ∀ c ∈ p.2, smallC c = true := fun p m => by
      obtain ⟨i, t, rs, e1, e2, e3, e4⟩ := pairs_mem m
      exact ⟨by rw [e3]; exact (okt t (List.mem_of_getElem? e1)).n1, (one rs (List.mem_of_getElem? e2) _ e4).1⟩
    have pl : (pairsOf ts (rss.map sortR)).length ≤ 12 := by
      rw [pairs_len lrs]
      exact wis.cnt
    have pt : (Tr.lst ((pairsOf ts (rss.map sortR)).map prT)).text.length ≤ sizeLine := by
      have a := Tr.text_le (.lst ((pairsOf ts (rss.map sortR)).map prT))
      have b := prs_w (ps := pairsOf ts (rss.map sortR)) fun p m => by
        obtain ⟨i, t, rs, e1, e2, e3, e4⟩ := pairs_mem m
        exact ⟨(prs p m).1, (one rs (List.mem_of_getElem? e2) _ e4).2⟩
      have c : (Tr.lst ((pairsOf ts (rss.map sortR)).map prT)).w = 3 + ws ((pairsOf ts (rss.map sortR)).map prT) := rfl
      omega
    refine ⟨_, rfl, w, ps, rls, ts, rss, rfl, wl, okt, fun i t rs e1 e2 r m => ((wi.rk i t rs e1 e2).1 r m).ok, few3, fun H1 D qs1 s1 nD eD rt => ?_⟩
    refine ⟨by show 0 ≤ sizeLine; omega, fun W0 hW0 => ⟨_, _, rfl, ?_⟩⟩
    have sW := same_upd (o := .lst []) hW0
    have s2 := s1.trans sW
    have eW : upd H1 W0 (.lst []) W0 = some (.lst []) := upd_same
    have eD2 := sW _ _ eD
    have rt2 : RTups (upd H1 W0 (.lst [])) qs1 (rss.map sortR) := rt.mono fun _ _ z => z.keep (Fz.of_same sW)
    show tSeq _ _ _ _ (upd H1 W0 (.lst []))
    generalize upd H1 W0 (.lst []) = H2 at sW s2 eW eD2 rt2 ⊢
    have wl2 := wl.same s2
    have sa2 := sa.same s2
    -- the rows of all tables
    refine ⟨_, rfl, w, rfl, ⟨_, SqL.of wl2.hw⟩, fun D2 hD2 => ?_⟩
    refine lc_list (K := K) (a := w) (xs := ps.map V.ref) (fun j H' => Same H2 H' ∧ H' D2 = some (.lst ((qs.take j).map V.ref))) ⟨same_upd hD2, upd_same⟩ (fun j H' _ z => SqL.of (z.1 _ _ wl2.hw)) ?_ ?_
    · rintro j y H13 hj ⟨s13, e13⟩
      have jlt : j < ts.length := by
        have := (List.getElem?_eq_some_iff.mp hj).1
        rw [List.length_map, wl2.lp] at this
        exact this
      obtain ⟨pj, rlj, tj, rsj, f1, _, f3, f4, smj, vsj, h0, ⟨oj, b1, b2, b3, hsj, hodj, _⟩, _, _⟩ := wl2.at jlt
      rw [List.getElem?_map, f1] at hj
      obtain rfl := Option.some.inj hj
      have sa13 := sa2.same s13
      refine ⟨pj, [.ref smj, .ref rlj], rfl, SqL.of (s13 _ _ h0), rfl, _, _, rfl, _, _, rfl, rfl, ?_⟩
      refine ⟨rfl, ?_⟩
      dsimp only [tYes]
      rw [if_pos rfl]
      have n1 := (okt tj (List.mem_of_getElem? f3)).n1
      have fj := first_nm wn.nd f3
      refine ⟨_, rfl, st, dx, _, rfl, sa13.hs, rfl, _, rfl, smj, _, 0, .str tj.nm, rfl, rfl, .inl (.inr ⟨oj, s13 _ _ hsj⟩), rfl, st, dx, tp, rd, wv, ts, qs, rss.map sortR, .str tj.nm, .str tj.nm, 0, [], rfl, sa13, .str (Nat.le_trans (nm_text n1).1 (by decide)) (Nat.le_trans (nm_text n1).2 (by decide)), fun i' q H' fi hq s' => ?_, fun z => ?_⟩
      · rw [fj] at fi
        obtain rfl := Option.some.inj fi
        refine ⟨_, s' _ _ e13, ?_, fun c u e => ?_, ?_⟩
        · rw [List.length_map, List.length_take]
          omega
        · rw [upd_ne (ne_of_none e hD2)]
          exact s' _ _ (s13 c u e)
        · rw [upd_same, List.take_add_one, hq]
          simp
      · rw [fj] at z
        cases z
    rintro H3 ⟨s3, e3⟩
    rw [List.length_map, wl2.lp, ← lq, List.take_length] at e3
    have sa3 := sa2.same s3
    have eD3 := s3 _ _ eD2
    have rt3 : RTups H3 qs1 (rss.map sortR) := rt2.mono fun _ _ z => z.keep (Fz.of_same s3)
    obtain ⟨ba, da⟩ := lst_dt e3 (RTups.dpsF (K := K) sa3.rw sm2)
    obtain ⟨bb, db⟩ := lst_dt eD3 (RTups.dpsF (K := K) rt3 sm2)
    refine ⟨.ref D2, _, 3, ba, rfl, da, by decide, tt, _, rfl, .ref D, _, 3, bb, rfl, db, by decide, tt, rfl, _, rfl, ?_⟩
    rw [decide_eq_true rfl]
    refine iteF ?_
    have wl3 := wl2.same s3
    have eW3 := s3 _ _ eW
    have s03 := s2.trans s3
    have lq1 : qs1.length = ts.length := by rw [rt3.length, lrs]
    -- walking beside
    refine ⟨_, rfl, _, rfl, w, D, ps.map V.ref, qs1.map V.ref, rfl, SqL.of wl3.hw, SqL.of eD3, ?_⟩
    refine RZ.for_zipL (K := K) (a := w) (b := D) (xs := ps.map V.ref) (ys := qs1.map V.ref) (by rw [List.length_map, List.length_map, wl3.lp, lq1]) (fun i σ H' => ∃ (Wk : Addr) (zs : List V) (v4 v5 v6 v7 v8 : Option V), σ = [some (.ref st), some (.ref w), some (.ref D), some (.ref Wk), v4, v5, v6, v7, v8] ∧ Same H3 H' ∧ H' Wk = some (.lst zs) ∧ PrsAt H' zs (pairsOf (ts.take i) ((rss.map sortR).take i)))
      ⟨W0, [], _, _, _, _, _, rfl, Same.refl _, eW3, .nil⟩ (fun i σ H' ⟨_, _, _, _, _, _, _, _, s', _⟩ => ⟨SqL.of (s' _ _ wl3.hw), SqL.of (s' _ _ eD3)⟩) ?_ ?_
    · rintro i x y Tz σ H4 hx hy ⟨Wk, zs, v4, v5, v6, v7, v8, rfl, s4, e4, pr⟩ hT
      have ilt : i < ts.length := by
        have := (List.getElem?_eq_some_iff.mp hx).1
        rw [List.length_map, wl3.lp] at this
        exact this
      obtain ⟨pj, rlj, tj, rsj, f1, f2, f3, f4, smj, vsj, h0, haj, h2, hrj⟩ := wl3.at ilt
      obtain ⟨oj, b1, b2, b3, hsj, hodj, _⟩ := id haj
      rw [List.getElem?_map, f1] at hx
      obtain rfl := Option.some.inj hx
      have ltq : i < qs1.length := by rw [lq1]; exact ilt
      have eq1 := List.getElem?_eq_getElem ltq
      rw [List.getElem?_map, eq1] at hy
      obtain rfl := Option.some.inj hy
      obtain ⟨srs, es, rtq⟩ := each_get rt3 eq1
      have es' : srs = sortR rsj := by
        rw [List.getElem?_map, f4] at es
        exact (Option.some.inj es).symm
      subst es'
      obtain ⟨oq, xs, hq, hdq, hrq⟩ := rtq
      have tj_ok := okt tj (List.mem_of_getElem? f3)
      have lx : xs.length = (sortR rsj).length := hrq.length
      have l12 : (sortR rsj).length ≤ 12 := lens _ (List.mem_of_getElem? es)
      have sT := same_upd (o := .tup [V.ref pj, .ref qs1[i]]) hT
      have eT : upd H4 Tz (.tup [V.ref pj, .ref qs1[i]]) Tz = some (.tup [V.ref pj, .ref qs1[i]]) := upd_same
      generalize upd H4 Tz (.tup [V.ref pj, .ref qs1[i]]) = H5 at sT eT ⊢
      have s5 := s4.trans sT
      have e5 := sT _ _ e4
      have pr5 := pr.keep (Fz.of_same sT)
      refine ⟨Tz, _, rfl, SqT.of eT, rfl, _, _, rfl, pj, [.ref smj, .ref rlj], rfl, SqL.of (s5 _ _ h0), rfl, _, _, rfl, _, _, rfl, rfl, _, _, rfl, rfl, ?_⟩
      -- the pairs of this table
      refine ⟨_, rfl, _, rfl, qs1[i], rfl, ⟨xs, .inl (.inr ⟨oq, s5 _ _ hq⟩)⟩, fun D6 hD6 => ?_⟩
      refine lc_tup (K := K) (a := qs1[i]) (xs := xs) (fun j H' => Same H5 H' ∧ ∃ ys, H' D6 = some (.lst ys) ∧ PrsAt H' ys (((sortR rsj).take j).map fun r => (tj.nm, r)) ∧ ys.length = j) ⟨same_upd hD6, [], upd_same, .nil, rfl⟩ (fun j H' _ z => .inl (.inr ⟨oq, z.1 _ _ (s5 _ _ hq)⟩)) ?_ ?_
      · rintro j y H6 hj ⟨s6, ys, e6, pr6, ly⟩
        obtain ⟨r, er, hr'⟩ := each_get hrq hj
        have ltj := (List.getElem?_eq_some_iff.mp hj).1
        refine ⟨rfl, ?_⟩
        dsimp only [tYes]
        rw [if_pos rfl]
        refine ⟨_, rfl, smj, _, 0, .str tj.nm, rfl, rfl, .inl (.inr ⟨oj, s6 _ _ (s5 _ _ hsj)⟩), rfl, _, rfl, by show 2 ≤ sizeLine; omega, fun p o hp ho => ?_⟩
        have s7 := same_upd (o := .frz o (.tup [V.str tj.nm, y])) hp
        refine ⟨ys, s7 _ _ e6, by omega, fun c u e => ?_, ys ++ [.ref p], upd_same, ?_, by rw [List.length_append, ly]; rfl⟩
        · rw [upd_ne (ne_of_none e hD6)]
          exact s7 _ _ (s6 c u e)
        · have fz : Fz (upd H6 p (.frz o (.tup [V.str tj.nm, y]))) (upd (upd H6 p (.frz o (.tup [V.str tj.nm, y]))) D6 (.lst (ys ++ [.ref p]))) := fun b ob zs e => by
            rw [upd_ne fun z => by rw [z, s7 _ _ e6] at e; cases e]
            exact e
          have tk : ((sortR rsj).take (j + 1)).map (fun r => (tj.nm, r)) = ((sortR rsj).take j).map (fun r => (tj.nm, r)) ++ [(tj.nm, r)] := by
            rw [List.take_add_one, er]
            simp
          rw [tk]
          exact each_append ((pr6.keep (Fz.of_same s7)).keep fz) (.cons (PrAt.keep ⟨p, o, y, rfl, upd_same, ho, hr'.keep (Fz.of_same ((s5.trans s6).trans s7))⟩ fz) .nil)
      rintro H6 ⟨s6, ys, e6, pr6, ly⟩
      rw [lx, List.take_length] at pr6
      have pz : zs.length = (pairsOf (ts.take i) ((rss.map sortR).take i)).length := pr5.length
      have pz2 : (pairsOf (ts.take i) ((rss.map sortR).take i)).length ≤ 12 := by
        have h1 : ((rss.map sortR).take i).length = (ts.take i).length := by rw [List.length_take, List.length_take, lrs]
        rw [pairs_len h1]
        have h2 := count_take (rss.map sortR) i
        exact Nat.le_trans h2 wis.cnt
      have ly2 : ys.length = xs.length := ly
      refine ⟨Wk, D6, zs, ys, rfl, rfl, s6 _ _ e5, e6, by omega, fun L hL => ?_⟩
      have s7 := same_upd (o := .lst (zs ++ ys)) hL
      have e7 : upd H6 L (.lst (zs ++ ys)) L = some (.lst (zs ++ ys)) := upd_same
      have pr7 : PrsAt (upd H6 L (.lst (zs ++ ys))) (zs ++ ys) (pairsOf (ts.take (i + 1)) ((rss.map sortR).take (i + 1))) := by
        rw [pairs_snoc f3 es]
        exact each_append ((pr5.keep (Fz.of_same s6)).keep (Fz.of_same s7)) (pr6.keep (Fz.of_same s7))
      have s07 := (s5.trans s6).trans s7
      generalize upd H6 L (.lst (zs ++ ys)) = H7 at s7 e7 pr7 s07 ⊢
      -- each row is there
      have h2' := s07 _ _ h2
      have ra7 := RowsAt.keep (Fz.of_same s07) hrj
      have sa7 := sa3.same s07
      refine ⟨_, rfl, rlj, rfl, ⟨_, SqL.of h2'⟩, fun D8 hD8 => ?_⟩
      refine lc_list (K := K) (a := rlj) (xs := vsj) (fun j H' => Same H7 H' ∧ H' D8 = some (.lst [])) ⟨same_upd hD8, upd_same⟩ (fun j H' _ z => SqL.of (z.1 _ _ h2')) ?_ ?_
      · rintro j y H8 hj ⟨s8, e8⟩
        refine ⟨rfl, ?_⟩
        obtain ⟨r, er, hr'⟩ := each_get ra7 hj
        have mr : r ∈ rsj := List.mem_of_getElem? er
        have ms : r ∈ sortR rsj := (sortR_perm rsj).mem_iff.mpr mr
        have rk := (wi.rk i tj rsj f3 f4).1 r mr
        refine ⟨_, rfl, smj, _, 0, .str tj.nm, rfl, rfl, .inl (.inr ⟨oj, s8 _ _ (s07 _ _ hsj)⟩), rfl, _, rfl, by show 2 ≤ sizeLine; omega, fun p o hp ho => ?_⟩
        have s9 := same_upd (o := .frz o (.tup [V.str tj.nm, y])) hp
        have d9 : DP K (upd H8 p (.frz o (.tup [V.str tj.nm, y]))) (FrzAt (upd H8 p (.frz o (.tup [V.str tj.nm, y])))) (.ref p) (prT (tj.nm, r)) 2 := PrAt.dpF (p := (tj.nm, r)) ⟨p, o, y, rfl, upd_same, ho, hr'.keep (Fz.of_same (s8.trans s9))⟩ tj_ok.n1 rk.sm
        obtain ⟨b9, d9, _⟩ := d9
        have w9 : (prT (tj.nm, r)).w ≤ 10000 := by
          have a := rk.w tj_ok
          have b := (nm_text tj_ok.n1).1
          show 3 + (((reprText tj.nm).length + 2) + (((rowT r).w + 2) + 0)) ≤ 10000
          omega
        refine ⟨_, rfl, st, dx, _, rfl, (sa7.same (s8.trans s9)).hs, st, dx, tp, rd, wv, ts, qs, rss.map sortR, .ref p, prT (tj.nm, r), 2, b9, rfl, sa7.same (s8.trans s9), okt, d9, w9, fun H10 s10 => ⟨true, ?_, ?_⟩⟩
        · rw [has_row wn.nd f3 es rk.ok, decide_eq_true ms]
        · refine ⟨_, rfl, ?_⟩
          refine iteF ⟨(s8.trans s9).trans s10, s10 _ _ (s9 _ _ e8)⟩
      rintro H8 ⟨s8, e8⟩
      refine ⟨by show 0 ≤ sizeLine; omega, fun q hq9 => ?_⟩
      have s9 := same_upd (o := .lst []) hq9
      refine ⟨.list [], .list [], .lst (SqL.of (s9 _ _ e8)) .nil, .lst (SqL.of upd_same) .nil, rfl, rfl, by decide, _, rfl, ?_⟩
      refine iteF ⟨L, zs ++ ys, _, _, _, _, _, rfl, (s07.trans s8).trans s9, s9 _ _ (s8 _ _ e7), pr7.keep (Fz.of_same (s8.trans s9))⟩
    rintro σ H4 ⟨Wk, zs, v4, v5, v6, v7, v8, rfl, s4, e4, pr⟩
    have sa4 := sa3.same s4
    have lw : (ps.map V.ref).length = ts.length := by rw [List.length_map, wl3.lp]
    rw [lw, List.take_length, ← lrs, List.take_length] at pr
    have lz : zs.length = countOf (rss.map sortR) := by rw [pr.length, pairs_len lrs]
    have c12 := wis.cnt
    refine ⟨_, rfl, st, dx, _, rfl, sa4.hs, rfl, st, dx, tp, rd, wv, ts, qs, rss.map sortR, rfl, sa4, fun rs m => Nat.le_trans (lens rs m) (by decide), fun H5 ys s5 pr5 p hp => ?_⟩
    have s6 := same_upd (o := .lst ys) hp
    obtain ⟨bc, dc⟩ := lst_dt (K := K) (upd_same (H := H5) (a := p) (o := .lst ys)) (PrsAt.dpsF (K := K) (pr5.keep (Fz.of_same s6)) prs)
    have s46 := s5.trans s6
    obtain ⟨bd, dd⟩ := lst_dt (s46 _ _ e4) (PrsAt.dpsF (K := K) (pr.keep (Fz.of_same s46)) prs)
    refine ⟨.ref p, _, 3, bc, rfl, dc, by decide, pt, _, rfl, .ref Wk, _, 3, bd, rfl, dd, by decide, pt, rfl, _, rfl, ?_⟩
    rw [decide_eq_true rfl]
    have sa6 := sa4.same s46
    refine iteT ⟨_, rfl, st, dx, _, rfl, sa6.hs, st, dx, tp, rd, wv, ts, qs, rss.map sortR, rfl, sa6, fun rs m => Nat.le_trans (lens rs m) (by decide), fun H7 s7 => ⟨countOf (rss.map sortR), rfl, by omega, ?_⟩⟩
    have ti : (Tr.int ((countOf (rss.map sortR) : Nat) : Int)).text.length ≤ sizeLine := by
      have := int_text12 c12
      omega
    have hi : ((countOf (rss.map sortR) : Nat) : Int).natAbs.log2 < 1920 := by
      have : ((countOf (rss.map sortR) : Nat) : Int).natAbs = countOf (rss.map sortR) := by omega
      rw [this]
      exact Nat.lt_of_le_of_lt (Nat.log2_le_self _) (by omega)
    refine ⟨.int ((countOf (rss.map sortR) : Nat) : Int), .int ((countOf (rss.map sortR) : Nat) : Int), 0, [], rfl, .int hi, by decide, ti, _, rfl, Wk, zs, rfl, .inl (SqL.of (s7 _ _ (s46 _ _ e4))), ?_⟩
    rw [lz]
    refine ⟨.int ((countOf (rss.map sortR) : Nat) : Int), .int ((countOf (rss.map sortR) : Nat) : Int), 0, [], rfl, .int hi, by decide, ti, rfl, ?_⟩
    rw [decide_eq_true rfl]
    exact k H7 (((s03.trans s4).trans s46).trans s7)
end
end Vm
/-! the law: a call of do beside the rows that are kept -/
namespace Vm
open PySem L2
abbrev sCall : Stmt := top 62
/-- list(a list) -/
def rListOf (K : PySem.W.Frag) : List V → Hp → VK → Prop := fun xs H Q => ∃ p ys, xs = [.ref p] ∧ (SqL K H p ys ∨ SqT K H p ys) ∧ ∀ l, H l = none → Q (.ref l) (upd H l (.lst ys))
theorem call_listOf {X : Cx} : CallR X (.type "list") (rListOf X.K) := call_list_of
def spCallRight (K : PySem.W.Frag) (C CT : Addr) : Sp := fun vs H Q _ => ∃ (s l st w : Addr) (ms : List Int) (z b : Int) (dx tp rd : Addr) (wv : List V) (ps rls : List Addr) (ts : List Ti) (qs : List Addr) (rss : List (List Row)),
  vs = [.ref s, .ref st, .ref w] ∧ Src H s l ms z b ∧ 0 ≤ b ∧ b < 500000 ∧ StAt K H C CT st dx tp rd wv ts qs (rss.map sortR) ∧ Wl H w ps rls ts rss ∧ Wn ts ∧ WInv ts rss ∧ (∀ c ∈ w :: (ps ++ rls), Off s l c) ∧
  ∀ (H' : Hp) (ms' : List Int) (b' : Int) (qs' rls' : List Addr) (rss' : List (List Row)), BK s l rd ps H H' → Src H' s l ms' z b' → b ≤ b' → b' ≤ b + 200 → StAt K H' C CT st dx tp rd wv ts qs' (rss'.map sortR) → Wl H' w ps rls' ts rss' → WInv ts rss' → (∀ c ∈ w :: (ps ++ rls'), Off s l c) → Q (.bl true) H'
/-- the rows kept, copied: j of the tables -/
def TwinAt (H1 H : Hp) (D : Addr) (ts : List Ti) (rss : List (List Row)) (j : Nat) : Prop := ∃ ps rls, Wl H D ps rls (ts.take j) (rss.take j) ∧ ∀ c ∈ D :: (ps ++ rls), H1 c = none
theorem ixn {n j : Nat} (h : j < n) : ixN n (j : Int) = some j := by
  unfold ixN
  rw [if_pos (by omega), if_pos (by omega)]
  rfl
theorem take_snoc {α : Type} {xs : List α} {j : Nat} {x : α} (e : xs[j]? = some x) : xs.take (j + 1) = xs.take j ++ [x] := by
  rw [List.take_add_one, e]
  rfl
theorem twin_nil {H1 : Hp} {D : Addr} {ts : List Ti} {rss : List (List Row)} (h : H1 D = none) : TwinAt H1 (upd H1 D (.lst [])) D ts rss 0 :=
  ⟨[], [], ⟨upd_same, rfl, rfl, rfl, (fun _ _ _ _ _ e => nomatch e), by simp⟩, fun c m => by
    rw [List.mem_singleton.mp m]
    exact h⟩
theorem twin_snoc {H1 H : Hp} {D q p sm : Addr} {ts : List Ti} {rss : List (List Row)} {j : Nat} {t : Ti} {rs : List Row} {vs : List V} (s : ∀ b o, H1 b = some o → H b = some o) (h : TwinAt H1 H D ts rss j) (et : ts[j]? = some t) (er : rss[j]? = some rs) (hq : H q = none)
    (hp : (upd H q (.lst vs)) p = none) (ha : ArgT H sm t) (hr : RowsAt H vs rs) (few : ts.length ≤ 3) : ∃ xs, (upd (upd H q (.lst vs)) p (.lst [.ref sm, .ref q])) D = some (.lst xs) ∧ xs.length < sizeLine ∧ (∀ b o, H1 b = some o → (upd (upd (upd H q (.lst vs)) p (.lst [.ref sm, .ref q])) D (.lst (xs ++ [.ref p]))) b = some o) ∧
    TwinAt H1 (upd (upd (upd H q (.lst vs)) p (.lst [.ref sm, .ref q])) D (.lst (xs ++ [.ref p]))) D ts rss (j + 1) := by
  obtain ⟨ps, rls, wl, nw⟩ := h
  have big : sizeLine > 1000 := by decide
  have pq : p ≠ q := fun e => by
    rw [e, upd_same] at hp
    cases hp
  have hp' : H p = none := by
    rw [upd_ne pq] at hp
    exact hp
  have s1 : Same H (upd H q (.lst vs)) := same_upd hq
  have s2 := s1.trans (same_upd (o := .lst [.ref sm, .ref q]) hp)
  have eq2 : (upd (upd H q (.lst vs)) p (.lst [.ref sm, .ref q])) q = some (.lst vs) := by
    rw [upd_ne pq.symm]
    exact upd_same
  have ep2 : (upd (upd H q (.lst vs)) p (.lst [.ref sm, .ref q])) p = some (.lst [.ref sm, .ref q]) := upd_same
  generalize upd (upd H q (.lst vs)) p (.lst [.ref sm, .ref q]) = H3 at s2 eq2 ep2 ⊢
  have nD := nw D List.mem_cons_self
  have ex : ∀ {c : Addr}, c ∈ D :: (ps ++ rls) → ∀ {x : Addr}, H x = none → x ≠ c := fun {c} m {x} hx e => by
    obtain ⟨ys, e'⟩ := wl.there c m
    rw [← e, hx] at e'
    cases e'
  have np : p ∉ D :: (ps ++ rls) := fun m => ex m hp' rfl
  have nq : q ∉ D :: (ps ++ rls) := fun m => ex m hq rfl
  have pD : p ≠ D := ex List.mem_cons_self hp'
  have qD : q ≠ D := ex List.mem_cons_self hq
  have lp : ps.length ≤ 3 := by
    rw [wl.lp, List.length_take]
    omega
  have nd := wl.nd
  rw [List.nodup_cons] at nd
  have fz : Fz H (upd H3 D (.lst (ps.map V.ref ++ [.ref p]))) := fun b o xs e => by
    rw [upd_ne fun z => by rw [z, wl.hw] at e; cases e]
    exact s2 _ _ e
  refine ⟨ps.map V.ref, s2 _ _ wl.hw, by rw [List.length_map]; omega, fun b o e => ?_, ps ++ [p], rls ++ [q], ?_, fun c m => ?_⟩
  · rw [upd_ne (ne_of_none e nD)]
    exact s2 _ _ (s b o e)
  · rw [take_snoc et, take_snoc er]
    refine wl.snocR (fun b m o e => ?_) fz (by rw [upd_same, List.map_append]; rfl) (by rw [upd_ne pD]; exact ep2) (ha.fz fz) (by rw [upd_ne qD]; exact eq2) (RowsAt.keep fz hr) np nq pq
    have n : b ≠ D := fun z => nd.1 (by rw [← z]; exact m)
    rw [upd_ne n]
    exact s2 _ _ e
  · have back : ∀ {c : Addr}, H c = none → H1 c = none := fun {c} e => by
      cases h1 : H1 c with
      | none => rfl
      | some o =>
        rw [s c o h1] at e
        cases e
    rcases List.mem_cons.mp m with e | m
    · rw [e]
      exact nD
    · rcases List.mem_append.mp m with m | m
      · rcases List.mem_append.mp m with m | m
        · exact nw c (List.mem_cons_of_mem _ (List.mem_append_left _ m))
        · rw [List.mem_singleton.mp m]
          exact back hp'
      · rcases List.mem_append.mp m with m | m
        · exact nw c (List.mem_cons_of_mem _ (List.mem_append_right _ m))
        · rw [List.mem_singleton.mp m]
          exact back hq
/-- behind j changes -/
structure CallSt (K : PySem.W.Frag) (H0 H : Hp) (a l D W2 q : Addr) (ms : List Int) (z b b0 : Int) (xs : List V) (us : List Tr) (ps rls : List Addr) (ts : List Ti) (rss0 rss : List (List Row)) (j : Nat) : Prop where
  kb : But a l H0 H
  hs : Src H a l ms z b
  b1 : b0 ≤ b
  b2 : b ≤ b0 + 1 + 31 * (j : Int)
  eD : H D = some (.lst xs)
  ch : ChgsAt H ts xs us
  lu : us.length = j
  tv : TupV H q ((boolsT ts (rss0.map sortR) us).map V.bl)
  wl : Wl H W2 ps rls ts rss
  wi : WInv ts rss
  st : rss.map sortR = stepsT ts (rss0.map sortR) us
theorem call_step {K : PySem.W.Frag} {H0 H H6 H7 H9 : Hp} {a l D W2 q p q9 : Addr} {ms ms6 : List Int} {z b b0 b6 : Int} {xs : List V} {us : List Tr} {ps rls : List Addr} {ts : List Ti} {rss0 rss : List (List Row)} {j i : Nat} {kd : Str} {ti : Ti} {us' rs : List Row}
    (h : CallSt K H0 H a l D W2 q ms z b b0 xs us ps rls ts rss0 rss j) (wn : Wn ts) (nD : H0 D = none) (nw : ∀ c ∈ W2 :: (ps ++ rls), H0 c = none ∧ c ≠ D) (oD : Off a l D) (ow : ∀ c ∈ W2 :: (ps ++ rls), Off a l c)
    (k6 : But a l H H6) (hs6 : Src H6 a l ms6 z b6) (f1 : b ≤ b6) (f2 : b6 ≤ b + 30) (deed : DeedAt H6 p kd ti.nm us') (et : ts[i]? = some ti) (er : rss[i]? = some rs) (rk : ∀ r ∈ us', Rk ti r) (hl : lenV kd = .int ((us'.length + 2 : Nat) : Int)) (hc : kd = insS → countOf rss < 12)
    (br : BR rls H6 H7) (fz7 : Fz H6 H7) (wl7 : Wl H7 W2 ps rls ts (if possR ti kd us' rs = true then rss.set i (followR kd us' rs) else rss))
    (s8 : Same H7 H9) (t9 : TupV H9 q9 ((boolsT ts (rss0.map sortR) us).map V.bl ++ [.bl (possR ti kd us' rs)])) :
    H9 D = some (.lst xs) ∧ CallSt K H0 (upd H9 D (.lst (xs ++ [.ref p]))) a l D W2 q9 ms6 z b6 b0 (xs ++ [.ref p]) (us ++ [.tup (deedL kd ti.nm us')]) ps rls ts rss0 (if possR ti kd us' rs = true then rss.set i (followR kd us' rs) else rss) (j + 1) := by
  have nr : ∀ {c : Addr}, c ∈ rls → c ∈ W2 :: (ps ++ rls) := fun m => List.mem_cons_of_mem _ (List.mem_append_right _ m)
  have eD9 : H9 D = some (.lst xs) := s8 _ _ (br _ _ (fun m => (nw _ (nr m)).2 rfl) (k6 _ _ oD.1 oD.2 h.eD))
  have ar : a ∉ rls := fun m => (ow _ (nr m)).1 rfl
  have lr : l ∉ rls := fun m => (ow _ (nr m)).2 rfl
  have hs9 : Src H9 a l ms6 z b6 := (⟨br _ _ ar hs6.hs, br _ _ lr hs6.hl, hs6.len⟩ : Src H7 a l ms6 z b6).but s8
  have fz9 : Fz H9 (upd H9 D (.lst (xs ++ [.ref p]))) := fun b o zs e => by
    rw [upd_ne fun z => by rw [z, eD9] at e; cases e]
    exact e
  have fz69 : Fz H6 (upd H9 D (.lst (xs ++ [.ref p]))) := fun b o zs e => fz9 _ _ _ (s8 _ _ (fz7 _ _ _ e))
  have fz09 : Fz H (upd H9 D (.lst (xs ++ [.ref p]))) := fun b o zs e => fz69 _ _ _ (k6.fz h.hs _ _ _ e)
  obtain ⟨chg, pos⟩ := deed_chg (rss := rss) wn.nd et er (fun r m => (rk r m).ok) hl
  obtain ⟨y1, y2⟩ := both_stepW h.wi wn.nd et er rk hl hc pos
  refine ⟨eD9, ⟨fun c o n1 n2 e => ?_, hs9.put oD, by have := h.b1; omega, by have := h.b2; omega, upd_same, ?_, by rw [List.length_append, h.lu]; rfl, ?_, ?_, y2, ?_⟩⟩
  · rw [upd_ne (ne_of_none e nD)]
    refine s8 _ _ (br _ _ (fun m => ?_) (k6 _ _ n1 n2 (h.kb _ _ n1 n2 e)))
    rw [(nw _ (nr m)).1] at e
    cases e
  · exact each_append (h.ch.fz fz09) (.cons ⟨p, kd, i, ti, us', rfl, deed.fz fz69, et, rk, hl, rfl⟩ .nil)
  · have e : posT ts (stepsT ts (rss0.map sortR) us) (.tup (deedL kd ti.nm us')) = possR ti kd us' rs := by
      rw [← h.st, pos_sort, pos]
    rw [bools_snoc, e, List.map_append]
    exact t9.fz fz9
  · refine (wl7.same s8).keep (fun c m o e => ?_) fz9
    rw [upd_ne (nw c m).2]
    exact e
  · rw [steps_snoc, ← h.st]
    exact y1.symm
theorem dta_each {K : PySem.W.Frag} {H : Hp} {n : Nat} : ∀ (vs : List V) (ts : List Tr) (bs : List Addr), DtAll K H vs ts n bs → (∀ t ∈ ts, t.w ≤ 10000) → PySem.W.EachIs (fun v t => (∃ n bs, Dt K H v t n bs) ∧ t.w ≤ 10000) vs ts := by
  intro vs
  induction vs with
  | nil =>
    intro ts bs d w
    cases d
    exact .nil
  | cons v vs ih =>
    intro ts bs d w
    cases d with
    | cons d ds => exact .cons ⟨⟨_, _, d⟩, w _ List.mem_cons_self⟩ (ih _ _ ds fun t m => w t (List.mem_cons_of_mem _ m))
theorem dps_each {K : PySem.W.Frag} {H : Hp} {P : Addr → Prop} {n : Nat} {vs : List V} {ts : List Tr} (d : DPs K H P vs ts n) (w : ∀ t ∈ ts, t.w ≤ 10000) : PySem.W.EachIs (fun v t => (∃ n bs, Dt K H v t n bs) ∧ t.w ≤ 10000) vs ts :=
  let ⟨bs, d, _⟩ := d; dta_each vs ts bs d w
theorem set_at {α : Type} {us ws : List α} {m : Nat} {t : α} (hm : m < us.length) : (us.set m t ++ ws)[m]? = some t := by
  rw [List.getElem?_append_left (by rw [List.length_set]; exact hm), List.getElem?_set_self hm]
theorem odd_first {ts : List Ti} {us ws : List Tr} {m i : Nat} {t t' : Tr} (hm : m < us.length) (c : ∀ u ∈ us, isChg ts u = true) (ct : isChg ts t = false) (e : (us.set m t ++ ws)[i]? = some t') (ct' : isChg ts t' = false)
    (al : ∀ j, j < i → ∀ tj, (us.set m t ++ ws)[j]? = some tj → isChg ts tj = true) : i = m := by
  rcases Nat.lt_trichotomy i m with h | h | h
  · rw [List.getElem?_append_left (by rw [List.length_set]; omega), List.getElem?_set_ne (by omega)] at e
    rw [c t' (List.mem_of_getElem? e)] at ct'
    cases ct'
  · exact h
  · have := al m h t (set_at hm)
    rw [ct] at this
    cases this
/-- the pairs take over the lists of the twin: i of them -/
structure ZipSt (H9 H : Hp) (ps rls2 : List Addr) (ts : List Ti) (rss : List (List Row)) (i : Nat) : Prop where
  br : ∀ b o, b ∉ ps → H9 b = some o → H b = some o
  later : ∀ (k : Nat) (p : Addr) (o : HO), i ≤ k → ps[k]? = some p → H9 p = some o → H p = some o
  done : ∀ (k : Nat) (p rl : Addr) (t : Ti) (rs : List Row), k < i → ps[k]? = some p → rls2[k]? = some rl → ts[k]? = some t → rss[k]? = some rs → PairAt H p rl t rs
theorem nodup_ne {ps : List Addr} (nd : ps.Nodup) {i k : Nat} {p p' : Addr} (e : ps[i]? = some p) (e' : ps[k]? = some p') (n : i ≠ k) : p' ≠ p := fun q => by
  obtain ⟨l1, x1⟩ := List.getElem?_eq_some_iff.mp e
  obtain ⟨l2, x2⟩ := List.getElem?_eq_some_iff.mp e'
  have i1 := nd.idxOf_getElem i l1
  have i2 := nd.idxOf_getElem k l2
  rw [x1] at i1
  rw [x2, q] at i2
  omega
theorem zip_nil {H : Hp} {ps rls2 : List Addr} {ts : List Ti} {rss : List (List Row)} : ZipSt H H ps rls2 ts rss 0 := ⟨fun _ _ _ e => e, fun _ _ _ _ _ e => e, fun _ _ _ _ _ h => absurd h (Nat.not_lt_zero _)⟩
theorem zip_fz {H9 H : Hp} {w : Addr} {ps rls rls2 : List Addr} {ts : List Ti} {rss0 rss : List (List Row)} {i : Nat} (z : ZipSt H9 H ps rls2 ts rss i) (wl : Wl H9 w ps rls ts rss0) : Fz H9 H := fun b o xs e => z.br _ _ (fun m => by
  obtain ⟨ys, e'⟩ := wl.there b (List.mem_cons_of_mem _ (List.mem_append_left _ m))
  rw [e] at e'
  cases e') e
theorem zip_snoc {H9 H H5 : Hp} {w W2 p rl sm : Addr} {ps rls ps2 rls2 : List Addr} {ts : List Ti} {rss0 rss : List (List Row)} {i : Nat} {t : Ti} {rs : List Row} {vs : List V} (z : ZipSt H9 H ps rls2 ts rss i) (wl : Wl H9 w ps rls ts rss0) (wl2 : Wl H9 W2 ps2 rls2 ts rss) (off : ∀ c ∈ W2 :: (ps2 ++ rls2), c ∉ ps)
    (s : Same H H5) (ep : ps[i]? = some p) (er : rls2[i]? = some rl) (et : ts[i]? = some t) (es : rss[i]? = some rs) (ha : ArgT H9 sm t) (hr : H9 rl = some (.lst vs)) (hrs : RowsAt H9 vs rs) : ZipSt H9 (upd H5 p (.lst [.ref sm, .ref rl])) ps rls2 ts rss (i + 1) := by
  have nd := wl.nd
  rw [List.nodup_cons, List.nodup_append] at nd
  obtain ⟨_, np, _, _⟩ := nd
  have mp := List.mem_of_getElem? ep
  have nr : ∀ {c : Addr}, c ∈ rls2 → c ∉ ps := fun m => off _ (List.mem_cons_of_mem _ (List.mem_append_right _ m))
  have fz9 := zip_fz z wl
  have fz : Fz H9 (upd H5 p (.lst [.ref sm, .ref rl])) := fun b o xs e => by
    rw [upd_ne fun q => by
      obtain ⟨ys, e'⟩ := wl.there p (List.mem_cons_of_mem _ (List.mem_append_left _ mp))
      rw [← q, e] at e'
      cases e']
    exact s _ _ (fz9 _ _ _ e)
  refine ⟨fun b o n e => ?_, fun k p' o hk e' e => ?_, fun k p' rl' t' rs' hk e1 e2 e3 e4 => ?_⟩
  · have n' : b ≠ p := fun q => n (by rw [q]; exact mp)
    rw [upd_ne n']
    exact s _ _ (z.br b o n e)
  · rw [upd_ne (nodup_ne np ep e' (by omega))]
    exact s _ _ (z.later k p' o (by omega) e' e)
  · by_cases q : k = i
    · subst q
      rw [ep] at e1
      obtain rfl := Option.some.inj e1
      rw [er] at e2
      obtain rfl := Option.some.inj e2
      rw [et] at e3
      obtain rfl := Option.some.inj e3
      rw [es] at e4
      obtain rfl := Option.some.inj e4
      refine ⟨sm, vs, upd_same, ha.fz fz, ?_, RowsAt.keep fz hrs⟩
      have n' : rl ≠ p := fun q => nr (List.mem_of_getElem? er) (by rw [q]; exact mp)
      rw [upd_ne n']
      exact s _ _ (z.br _ _ (nr (List.mem_of_getElem? er)) hr)
    · have h := z.done k p' rl' t' rs' (by omega) e1 e2 e3 e4
      refine h.keep (fun o e => ?_) (fun o e => ?_) fun b o xs e => ?_
      · rw [upd_ne (nodup_ne np ep e1 (by omega))]
        exact s _ _ e
      · have n' : rl' ≠ p := fun q => nr (List.mem_of_getElem? e2) (by rw [q]; exact mp)
        rw [upd_ne n']
        exact s _ _ e
      · rw [upd_ne fun q => by
          obtain ⟨ys, e'⟩ := wl.there p (List.mem_cons_of_mem _ (List.mem_append_left _ mp))
          have := z.later i p _ (Nat.le_refl _) ep e'
          rw [← q, e] at this
          cases this]
        exact s _ _ e
theorem zip_end {H9 H : Hp} {w W2 : Addr} {ps rls ps2 rls2 : List Addr} {ts : List Ti} {rss0 rss : List (List Row)} (z : ZipSt H9 H ps rls2 ts rss ts.length) (wl : Wl H9 w ps rls ts rss0) (wl2 : Wl H9 W2 ps2 rls2 ts rss) (off : ∀ c ∈ W2 :: (ps2 ++ rls2), c ∉ w :: ps) : Wl H w ps rls2 ts rss := by
  have nd := wl.nd
  rw [List.nodup_cons, List.nodup_append] at nd
  obtain ⟨nw, np, _, _⟩ := nd
  have nd2 := wl2.nd
  rw [List.nodup_cons, List.nodup_append] at nd2
  obtain ⟨_, _, nr, _⟩ := nd2
  have nr2 : ∀ {c : Addr}, c ∈ rls2 → c ∉ w :: ps := fun m => off _ (List.mem_cons_of_mem _ (List.mem_append_right _ m))
  refine ⟨z.br _ _ (fun m => nw (List.mem_append_left _ m)) wl.hw, wl.lp, wl2.lr, wl2.ls, fun i p rl t rs e1 e2 e3 e4 => z.done i p rl t rs (List.getElem?_eq_some_iff.mp e3).1 e1 e2 e3 e4, ?_⟩
  rw [List.nodup_cons, List.nodup_append]
  refine ⟨fun m => ?_, np, nr, fun x hx y hy q => nr2 hy (List.mem_cons_of_mem _ (q ▸ hx))⟩
  rcases List.mem_append.mp m with m | m
  · exact nw (List.mem_append_left _ m)
  · exact nr2 m List.mem_cons_self
section
variable {P : Program} {w : World} {K : PySem.W.Frag} {mg : Str → Option Value} {base : Heap} {C CT fD fP fCh fFo fO fDn fIs : Addr}
theorem scCall : FnScope ["_law_source_here", "_law_store_here", "_law_world_here", "_law_some", "_law_twin", "_law_due", "_law_k", "_law_change_here", "_law_at", "_law_found", "_law_kept", "_law_pair", "_law_other"] ["_law_source_here", "_law_store_here", "_law_world_here"] (defScope sCall) := ⟨rfl, rfl, rfl, by decide +kernel, rfl, by decide +kernel, by decide +kernel⟩
theorem ok_callright {f : Addr} {fd fdD fdP fdCh fdFo fdO fdDn fdIs : FuncData} (F : Fun K "_law_call_right" "_law_call_right" sCall f fd) (T : TxtL K mg fD fP) (rp : mg "repr" = none) (zp : mg "zip" = none) (it : mg "int" = none)
    (GD : FnOk P w K mg base CX0 1 fD fdD ["_law_source_here", "_law_many"] spDraw) (bD : Binds K fdD ["_law_source_here", "_law_many"] [])
    (GP : FnOk P w K mg base CX0 2 fP fdP ["_law_source_here", "_law_items"] (spPick K)) (bP : Binds K fdP ["_law_source_here", "_law_items"] [])
    (cCh : Calls K mg "_law_change" fCh) (GCh : FnOk P w K mg base CX0 5 fCh fdCh ["_law_source_here", "_law_world_here"] spChangeL) (bCh : Binds K fdCh ["_law_source_here", "_law_world_here"] [])
    (cFo : Calls K mg "_law_follow" fFo) (GFo : FnOk P w K mg base CX0 4 fFo fdFo ["_law_world_here", "_law_change_here"] (spFollow K)) (bFo : Binds K fdFo ["_law_world_here", "_law_change_here"] [])
    (cO : Calls K mg "_law_odd" fO) (GO : FnOk P w K mg base CX0 3 fO fdO ["_law_source_here"] (spOdd K)) (bO : Binds K fdO ["_law_source_here"] [])
    (cDn : Calls K mg "_law_done" fDn) (GDn : FnOk P w K mg base CX0 8 fDn fdDn ["_law_store_here", "_law_some"] (spDone K C CT)) (bDn : Binds K fdDn ["_law_store_here", "_law_some"] [])
    (cIs : Calls K mg "_law_is_so" fIs) (GIs : FnG P w K mg base CX0 6 fIs fdIs ["_law_store_here", "_law_world_here"] (spIsSo K C CT)) (bIs : Binds K fdIs ["_law_store_here", "_law_world_here"] []) :
    FnG P w K mg base CX0 9 f fd ["_law_source_here", "_law_store_here", "_law_world_here"] (spCallRight K C CT) := by
  refine okG0 F scCall (fun vs H Q E h => ?_) (fun cdv A outer s H vs Q E ag hr h => ?_)
  · obtain ⟨s, l, st, w, ms, z, b, dx, tp, rd, wv, ps, rls, ts, qs, rss, rfl, _⟩ := h
    rfl
  · obtain ⟨a, l, st, w, ms, z, b, dx, tp, rd, wv, ps, rls, ts, qs, rss, rfl, hs, b0, b1, sa, wl, wn, wi, off, k⟩ := h
    have hr1 : Room 1 _ := hr.mono (by decide)
    have hr2 : Room 2 _ := hr.mono (by decide)
    have hr3 : Room 3 _ := hr.mono (by decide)
    have hr4 : Room 4 _ := hr.mono (by decide)
    have hr5 : Room 5 _ := hr.mono (by decide)
    have hr6 : Room 6 _ := hr.mono (by decide)
    have hu : (A.deeper (PyProof.Rows.envOfC "_law_call_right" (defScope sCall) s.heap.objs.size f cdv)).units + 16 < cLine := by
      have := hr.units
      omega
    have hu8 : (A.deeper (PyProof.Rows.envOfC "_law_call_right" (defScope sCall) s.heap.objs.size f cdv)).units + 8 < cLine := by omega
    have big : sizeLine > 100000 := by decide
    refine ⟨_, pss_cons (ps_set (i := 3) scCall.nd rfl (Or.inl rfl) (pe_lst pa_nil))
      (pss_cons (ps_setLc (i := 4) (own := [("_law_pair", 11)]) (g := gName 11) (tt := tYes) (te := tLst (tCons (tOp (rIxL K) (tVar 11) (tC (.int 0))) (tCons (tCB (rListOf K) (tCons (tOp (rIxL K) (tVar 11) (tC (.int 1))) tNil)) tNil))) rfl scCall.nd rfl rfl (sw_true rfl rfl rfl (by decide +kernel)) (pi_list (pv 2))
          (blkOk_by (N := ["_law_source_here", "_law_store_here", "_law_world_here", "_law_some", "_law_twin", "_law_due", "_law_k", "_law_change_here", "_law_at", "_law_found", "_law_kept", "_law_pair", "_law_other"]) (sc := defScope sCall) (by decide +kernel)) (fun _ _ _ _ _ => pg_name (i := 11) scCall.nd rfl (Or.inl rfl))
          (fun _ _ _ _ _ => pts_nil) (fun _ _ _ _ _ => by exact (pe_lst (pa_cons (pe_ix ix_list (pv 11) pe_int (fun _ _ => rfl)) (pa_cons (pe_callTy call_listOf (by rfl) T.list (by decide +kernel) (pa_cons (pe_ix ix_list (pv 11) pe_int (fun _ _ => rfl)) pa_nil)) pa_nil)))))
      (pss_cons (ps_set (i := 5) scCall.nd rfl (Or.inl rfl) (pe_tupF pa_nil))
      (pss_cons (ps_for PassesOwn.never rfl (pi_range1 rfl T.range (pa_cons (pe_call GP hr2 rfl T.gP T.kP bP .nil pass0 (pa_cons (pv 0) (pa_cons (pe_lst (pa_cons pe_int (pa_cons pe_int (pa_cons pe_int (pa_cons pe_int (pa_cons pe_int (pa_cons pe_int pa_nil))))))) pa_nil))) pa_nil)) (pg_name (i := 6) scCall.nd rfl (Or.inl rfl))
        (pss_cons (ps_set (i := 7) scCall.nd rfl (Or.inl rfl) (pe_call GCh hr5 rfl cCh.g cCh.k bCh .nil pass0 (pa_cons (pv 0) (pa_cons (pv 4) pa_nil))))
        (pss_cons (ps_set (i := 5) scCall.nd rfl (Or.inl rfl) (pe_op op_catT2 (pv 5) (pe_tupF (pa_cons (pe_call GFo hr4 rfl cFo.g cFo.k bFo .nil pass0 (pa_cons (pv 4) (pa_cons (pv 7) pa_nil))) pa_nil))))
        (pss_one (ps_expr (pe_bm PySem.F.plainAttrs_list PySem.F.slot_list_append PySem.F.type_list_append mt_append (pv 3) (pa_cons (pv 7) pa_nil)))))))
      (pss_cons (ps_if (PW.pt (pw_and (pt_cmpR op_eq (pe_call GD hr1 rfl T.gD T.kD bD .nil pass0 (pa_cons (pv 0) (pa_cons pe_int pa_nil))) pe_int (nomark _)) (pw_and1 (pt_cmpR (op_neP hu8) (pv 3) (pe_lst pa_nil) (nomark _)))))
          (pss_cons (ps_set (i := 8) scCall.nd rfl (Or.inl rfl) (pe_call GD hr1 rfl T.gD T.kD bD .nil pass0 (pa_cons (pv 0) (pa_cons (pe_callB call_len_seq (by rfl) T.len (by decide +kernel) (pa_cons (pv 3) pa_nil)) pa_nil))))
          (pss_cons (ps_asg (pe_call GO hr3 rfl cO.g cO.k bO .nil pass0 (pa_cons (pv 0) pa_nil)) (pg_sub (pv 3) (pv 8) set_list))
          (pss_cons (ps_set (i := 3) scCall.nd rfl (Or.inl rfl) (pe_op op_cat (pv 3) (pe_op op_rep (pe_lst (pa_cons (pe_call GO hr3 rfl cO.g cO.k bO .nil pass0 (pa_cons (pv 0) pa_nil)) pa_nil))
              (pe_callTy call_int1 (by rfl) it (by decide +kernel) (pa_cons (pe_cmpR op_lt (pe_callB call_len_seq (by rfl) T.len (by decide +kernel) (pa_cons (pv 3) pa_nil)) pe_int (nomark _)) pa_nil)))))
          (pss_cons (ps_set (i := 9) scCall.nd rfl (Or.inl rfl) (pe_call GDn hr rfl cDn.g cDn.k bDn .nil pass0 (pa_cons (pv 1) (pa_cons (pv 3) pa_nil))))
          (pss_one (ps_ret (pe_and (pe_cmpR op_eq (pe_callB (call_reprT ag hu) (by rfl) rp (by decide +kernel) (pa_cons (pv 9) pa_nil)) (pe_callB (call_reprT ag hu) (by rfl) rp (by decide +kernel) (pa_cons (pe_lst (pa_cons pe_str (pa_cons (pe_ix ix_list (pv 3) (pv 8) (fun _ _ => rfl)) pa_nil))) pa_nil)) (nomark _))
            (pe_one (pe_callG GIs ag hr6 rfl cIs.g cIs.k bIs (pa_cons (pv 1) (pa_cons (pv 2) pa_nil))))))))))) pss_nil)
      (pss_cons (ps_par (i := 9) (j := 10) rfl scCall.nd rfl rfl (by decide) rfl rfl (pa_cons (pe_call GDn hr rfl cDn.g cDn.k bDn .nil pass0 (pa_cons (pv 1) (pa_cons (pv 3) pa_nil))) (pa_cons (pe_callB (call_reprT ag hu) (by rfl) rp (by decide +kernel) (pa_cons (pv 3) pa_nil)) pa_nil)) (by rfl))
      (pss_cons (ps_for PassesOwn.never rfl (pi_zip (by rfl) zp (pa_cons (pv 2) (pa_cons (pv 4) pa_nil))) (pg_tup rfl (pgs_cons (pg_name (i := 11) scCall.nd rfl (Or.inl rfl)) (pgs_cons (pg_name (i := 12) scCall.nd rfl (Or.inl rfl)) pgs_nil)))
        (pss_one (ps_asg (pe_ix ix_list (pv 12) pe_int (fun _ _ => rfl)) (pg_sub (pv 11) pe_int set_list))))
      (pss_one (ps_ret (pe_and (pe_cmpR op_eq (pe_callB (call_reprT ag hu) (by rfl) rp (by decide +kernel) (pa_cons (pv 9) pa_nil)) (pe_callB (call_reprT ag hu) (by rfl) rp (by decide +kernel) (pa_cons (pv 5) pa_nil)) (nomark _))
        (pe_and (pe_cmpR op_eq (pe_callB (call_reprT ag hu) (by rfl) rp (by decide +kernel) (pa_cons (pv 3) pa_nil)) (pv 10) (nomark _))
        (pe_one (pe_callG GIs ag hr6 rfl cIs.g cIs.k bIs (pa_cons (pv 1) (pa_cons (pv 2) pa_nil)))))))))))))), ?_⟩
    have okt : ∀ t ∈ ts, t.ok := fun t m => (wn.ok t m).g
    have few3 := wn.few
    -- the empty list
    refine ⟨by show 0 ≤ sizeLine; omega, fun D hD => ?_⟩
    have s1 := same_upd (o := .lst []) hD
    have eD1 : upd H D (.lst []) D = some (.lst []) := upd_same
    show tSeq _ _ _ _ (upd H D (.lst []))
    generalize upd H D (.lst []) = H1 at s1 eD1 ⊢
    have wl1 := wl.same s1
    -- the twin
    refine ⟨_, rfl, w, rfl, ⟨_, SqL.of wl1.hw⟩, fun W2 hW2 => ?_⟩
    refine lc_list (K := K) (a := w) (xs := ps.map V.ref) (fun j H' => Same H1 H' ∧ TwinAt H1 H' W2 ts rss j) ⟨same_upd hW2, twin_nil hW2⟩ (fun j H' _ z => SqL.of (z.1 _ _ wl1.hw)) ?_ ?_
    · rintro j y H2 hj ⟨s2, tw⟩
      have jlt : j < ts.length := by
        have := (List.getElem?_eq_some_iff.mp hj).1
        rw [List.length_map, wl1.lp] at this
        exact this
      obtain ⟨pj, rlj, tj, rsj, f1, _, f3, f4, smj, vsj, h0, haj, h2, hrj⟩ := wl1.at jlt
      rw [List.getElem?_map, f1] at hj
      obtain rfl := Option.some.inj hj
      refine ⟨rfl, ?_⟩
      dsimp only [tYes]
      rw [if_pos rfl]
      refine ⟨_, rfl, pj, _, 0, .ref smj, rfl, rfl, SqL.of (s2 _ _ h0), rfl, _, rfl, pj, _, 1, .ref rlj, rfl, rfl, SqL.of (s2 _ _ h0), rfl, rlj, vsj, rfl, .inl (SqL.of (s2 _ _ h2)), fun q hq => ⟨by show 2 ≤ sizeLine; omega, fun p hp => ?_⟩⟩
      exact twin_snoc s2 tw f3 f4 hq hp (haj.fz (Fz.of_same s2)) (RowsAt.keep (Fz.of_same s2) hrj) few3
    rintro H2 ⟨s2, ps2, rls2, wl2, nw2⟩
    rw [List.length_map, wl1.lp, List.take_length, ← wl.ls, List.take_length] at wl2
    have s02 := s1.trans s2
    have eD2 := s2 _ _ eD1
    have nw : ∀ c ∈ W2 :: (ps2 ++ rls2), H c = none ∧ c ≠ D := fun c m => by
      have e := nw2 c m
      refine ⟨s1.free e, fun q => ?_⟩
      rw [q, eD1] at e
      cases e
    have ow : ∀ c ∈ W2 :: (ps2 ++ rls2), Off a l c := fun c m => hs.free (nw c m).1
    have oD : Off a l D := hs.free hD
    -- due
    refine ⟨by show 0 ≤ sizeLine; omega, fun q3 o3 hq3 ho3 => ?_⟩
    have s3 := same_upd (o := .frz o3 (.tup [])) hq3
    have t3 : TupV (upd H2 q3 (.frz o3 (.tup []))) q3 [] := ⟨o3, upd_same, ho3⟩
    show tSeq _ _ _ _ (upd H2 q3 (.frz o3 (.tup [])))
    generalize upd H2 q3 (.frz o3 (.tup [])) = H3 at s3 t3 ⊢
    have s03 := s02.trans s3
    have eD3 := s3 _ _ eD2
    have wl3 := wl2.same s3
    -- how many
    refine ⟨_, rfl, by show 6 ≤ sizeLine; omega, fun q4 hq4 => ?_⟩
    have s4 := same_upd (o := .lst [V.int 1, .int 1, .int 1, .int 2, .int 3, .int 0]) hq4
    have e4 : upd H3 q4 (.lst [V.int 1, .int 1, .int 1, .int 2, .int 3, .int 0]) q4 = some (.lst [V.int 1, .int 1, .int 1, .int 2, .int 3, .int 0]) := upd_same
    generalize upd H3 q4 (.lst [V.int 1, .int 1, .int 1, .int 2, .int 3, .int 0]) = H4 at s4 e4 ⊢
    have s04 := s03.trans s4
    have hs4 := hs.but s04
    have o4 : Off a l q4 := (hs.but s03).free hq4
    refine ⟨a, l, .ref q4, ms, z, b, rfl, hs4, b0, by omega, .inl ⟨q4, _, rfl, fun H' kk => SqL.of (kk _ _ o4.1 o4.2 e4), by show 0 < 6; decide, by show 6 ≤ 1000; decide, fun H5 ms5 v k5 hs5 hv => ?_⟩⟩
    obtain ⟨n, rfl, n0, n3⟩ : ∃ n : Int, v = .int n ∧ 0 ≤ n ∧ n ≤ 3 := by
      simp only [List.mem_cons, List.not_mem_nil, or_false] at hv
      rcases hv with e | e | e | e | e | e <;> exact ⟨_, e, by decide, by decide⟩
    have wl5 : Wl H5 W2 ps2 rls2 ts rss := (wl3.same s4).keep (fun c m o e => k5 _ _ (ow c m).1 (ow c m).2 e) (k5.fz hs4)
    refine ⟨n, rfl, by omega, by omega, for_range (lo := 0) (n := n.toNat) (fun j σ H' => ∃ (q : Addr) (ms' : List Int) (b' : Int) (xs : List V) (us : List Tr) (rssj : List (List Row)) (v6 v7 : Option V), σ = [some (.ref a), some (.ref st), some (.ref w), some (.ref D), some (.ref W2), some (.ref q), v6, v7, none, none, none, none, none] ∧
      CallSt K H H' a l D W2 q ms' z b' b xs us ps2 rls2 ts rss rssj j) ?_ ?_ ?_⟩
    · exact ⟨q3, ms5, b + 1, [], [], rss, none, none, rfl, ⟨(But.of_same s04).trans k5, hs5, by omega, by omega, k5 _ _ oD.1 oD.2 (s4 _ _ eD3), .nil, rfl, t3.fz fun _ _ _ e => k5.fz hs4 _ _ _ (s4 _ _ e), wl5, wi, rfl⟩⟩
    · rintro j σ H6 hj ⟨q, ms', b', xs, us, rssj, v6, v7, rfl, cs⟩
      have c1 := cs.b1
      have c2 := cs.b2
      refine ⟨_, rfl, _, rfl, 12, a, l, W2, ms', z, b', ps2, rls2, ts, rssj, rfl, cs.hs, by omega, by omega, cs.wl, wn, ow, cs.wi.rk, by decide, fun H7 ms7 b7 p kd i ti us' k7 hs7 f1 f2 deed np et rk hl hc => ?_⟩
      have wl7 := cs.wl.keep (fun c m o e => k7 _ _ (ow c m).1 (ow c m).2 e) (k7.fz cs.hs)
      obtain ⟨_, _, _, rs, _, _, _, er, _⟩ := wl7.at (List.getElem?_eq_some_iff.mp et).1
      obtain ⟨frk, frl⟩ := cs.wi.rk i ti rs et er
      have tok := okt ti (List.mem_of_getElem? et)
      refine ⟨_, rfl, _, rfl, _, rfl, W2, p, ps2, rls2, ts, rssj, kd, i, ti, us', rs, rfl, wl7, wn.nd, deed, et, er, tok, fun r m => (rk r m).ok, fun r m => (frk r m).ok, by omega, few3, hl, fun H8 br fz8 wl8 => ⟨by show 1 ≤ sizeLine; omega, fun q9 o9 hq9 ho9 => ?_⟩⟩
      have s9 := same_upd (o := .frz o9 (.tup [V.bl (possR ti kd us' rs)])) hq9
      have t9 : TupV (upd H8 q9 (.frz o9 (.tup [V.bl (possR ti kd us' rs)]))) q9 [V.bl (possR ti kd us' rs)] := ⟨o9, upd_same, ho9⟩
      generalize upd H8 q9 (.frz o9 (.tup [V.bl (possR ti kd us' rs)])) = H9 at s9 t9 ⊢
      have tv9 : TupV H9 q ((boolsT ts (rss.map sortR) us).map V.bl) := cs.tv.fz fun _ _ _ e => s9 _ _ (fz8 _ _ _ (k7.fz cs.hs _ _ _ e))
      have lb : ((boolsT ts (rss.map sortR) us).map V.bl).length ≤ 3 := by
        rw [List.length_map, bools_len, cs.lu]
        omega
      refine ⟨q, q9, _, _, rfl, rfl, tv9, t9, by show _ + 1 ≤ sizeLine; omega, fun q10 H10 s10 t10 => ?_⟩
      obtain ⟨y1, y2⟩ := call_step cs wn hD nw oD ow k7 hs7 f1 f2 deed et er rk hl hc br fz8 wl8 (s9.trans s10) t10
      refine ⟨_, rfl, .inl ⟨rfl, _, SqL.of y1⟩, _, rfl, D, xs, _, rfl, rfl, y1, ?_, ?_⟩
      · have := cs.ch.length
        have := cs.lu
        omega
      · exact ⟨q10, ms7, b7, _, _, _, _, _, rfl, y2⟩
    rintro σ H6 ⟨q, ms6, b6, xs, us, rssj, v6, v7, rfl, cs⟩
    have c1 := cs.b1
    have c2 := cs.b2
    have lu3 : us.length ≤ 3 := by
      rw [cs.lu]
      omega
    have lx : xs.length = us.length := cs.ch.length
    have hs6 := cs.hs
    have wis := wi.sort
    have ls0 := wl.ls
    have allc : ∀ u ∈ us, isChg ts u = true := cs.ch.chg (rss := rss) wn.nd ls0
    have nwD : ∀ c ∈ W2 :: (ps2 ++ rls2), c ∉ w :: ps := fun c m q => by
      have e := (nw c m).1
      obtain ⟨ys, e'⟩ := wl.there c (by
        rcases List.mem_cons.mp q with h | h
        · rw [h]
          exact List.mem_cons_self
        · exact List.mem_cons_of_mem _ (List.mem_append_left _ h))
      rw [e] at e'
      cases e'
    have keepw : ∀ {H' : Hp}, But a l H H' → Wl H' w ps rls ts rss := fun {H'} kk => wl.keep (fun c m o e => kk _ _ (off c m).1 (off c m).2 e) (kk.fz hs)
    have wus : Vm.ws us ≤ 1005 * us.length := cs.ch.ws okt
    have tus : (Tr.lst us).text.length ≤ sizeLine := by
      have x1 := Tr.text_le (.lst us)
      have x2 : (Tr.lst us).w = 3 + Vm.ws us := rfl
      omega
    have tbs : (Tr.tup ((boolsT ts (rss.map sortR) us).map Tr.bl)).text.length ≤ sizeLine := by
      have x1 := Tr.text_le (.tup ((boolsT ts (rss.map sortR) us).map Tr.bl))
      have x2 : (Tr.tup ((boolsT ts (rss.map sortR) us).map Tr.bl)).w = 3 + Vm.ws ((boolsT ts (rss.map sortR) us).map Tr.bl) := rfl
      have x3 := bls_ws (boolsT ts (rss.map sortR) us)
      have x4 := bools_len ts us (rss.map sortR)
      omega
    have ewu : ∀ u ∈ us, u.w ≤ 10000 := fun u m => by
      obtain ⟨i, e⟩ := List.mem_iff_getElem?.mp m
      obtain ⟨v, _, c⟩ := each_get' cs.ch e
      exact Nat.le_trans (c.w okt) (by decide)
    dsimp only
    refine if_join (fun σ' H' => σ' = [some (.ref a), some (.ref st), some (.ref w), some (.ref D), some (.ref W2), some (.ref q), v6, v7, none, none, none, none, none] ∧ ∃ (ms' : List Int), But a l H6 H' ∧ Src H' a l ms' z (b6 + 1)) ?_ (fun nxt => ?_)
    · rintro σ H8 ⟨rfl, ms8, k8, hs8⟩
      have sa8 := sa.nl ((cs.kb.trans k8).nl hs)
      have fz8 := k8.fz hs6
      have ch8 := cs.ch.fz fz8
      have eD8 := k8 _ _ oD.1 oD.2 cs.eD
      have wl8 := keepw (cs.kb.trans k8)
      have wl28 := cs.wl.keep (fun c m o e => k8 _ _ (ow c m).1 (ow c m).2 e) fz8
      refine ⟨_, rfl, _, rfl, 12, st, dx, tp, rd, D, wv, ts, qs, rss.map sortR, xs, us, rfl, sa8, eD8, dps_each (ch8.dpsF (K := K) okt) ewu, lu3, wi.rk.sort.fit okt, by decide, fun _ H9 q9 qs9 du nq ⟨o9, eq9, ho9⟩ sa9 => ?_, fun i v t _ e2 c _ => ?_⟩
      · have nrd : ∀ {c : Addr} {ys : List V}, H8 c = some (.lst ys) → c ≠ rd := fun {c ys} e q => by
          rw [q, sa8.hd] at e
          cases e
        have ll : ∀ {c : Addr} {ys : List V}, H8 c = some (.lst ys) → H9 c = some (.lst ys) := fun e => du _ _ (nrd e) e
        have fz9 := du.fz sa8.hd
        have ch9 := ch8.fz fz9
        have eD9 := ll eD8
        have wl9 := wl8.keep (fun c m o e => by
          obtain ⟨ys, e'⟩ := wl8.there c m
          rw [e'] at e
          obtain rfl := Option.some.inj e
          exact ll e') fz9
        have wl29 := wl28.keep (fun c m o e => by
          obtain ⟨ys, e'⟩ := wl28.there c m
          rw [e'] at e
          obtain rfl := Option.some.inj e
          exact ll e') fz9
        have hs9 : Src H9 a l ms8 z (b6 + 1) := ⟨ll hs8.hs, ll hs8.hl, hs8.len⟩
        obtain ⟨bs9, dD9⟩ := lst_dt (K := K) eD9 (ch9.dpsF okt)
        have tv9 := (cs.tv.fz fz8).fz fz9
        refine ⟨_, rfl, .ref D, .lst us, 3, _, rfl, dD9, by decide, tus, _, _, rfl, ?_⟩
        refine ⟨_, rfl, _, rfl, w, W2, ps.map V.ref, ps2.map V.ref, rfl, SqL.of wl9.hw, SqL.of wl29.hw, ?_⟩
        refine RZ.for_zipL (K := K) (a := w) (b := W2) (xs := ps.map V.ref) (ys := ps2.map V.ref) (by rw [List.length_map, List.length_map, wl9.lp, wl29.lp]) (fun i σ H' => ∃ (v11 v12 : Option V), σ = [some (.ref a), some (.ref st), some (.ref w), some (.ref D), some (.ref W2), some (.ref q), v6, v7, none, some (.ref q9), some (.str (Tr.lst us).text), v11, v12] ∧ ZipSt H9 H' ps rls2 ts rssj i)
          ⟨_, _, rfl, zip_nil⟩ (fun i σ H' ⟨_, _, _, zz⟩ => ?_) ?_ ?_
        · have nd := wl9.nd
          rw [List.nodup_cons] at nd
          exact ⟨SqL.of (zz.br _ _ (fun m => nd.1 (List.mem_append_left _ m)) wl9.hw), SqL.of (zz.br _ _ (fun m => nwD _ List.mem_cons_self (List.mem_cons_of_mem _ m)) wl29.hw)⟩
        · rintro i x y Tz σ H10 hx hy ⟨v11, v12, rfl, zz⟩ hT
          have ilt : i < ts.length := by
            have := (List.getElem?_eq_some_iff.mp hx).1
            rw [List.length_map, wl9.lp] at this
            exact this
          obtain ⟨p, rl, t, rs, f1, f2, f3, f4, sm, vs, h0, ha, h2, hr⟩ := wl9.at ilt
          obtain ⟨p2, rl2, t2, rs2, g1, g2, g3, g4, sm2, vs2, i0, ia, i2, ir⟩ := wl29.at ilt
          rw [List.getElem?_map, f1] at hx
          obtain rfl := Option.some.inj hx
          rw [List.getElem?_map, g1] at hy
          obtain rfl := Option.some.inj hy
          rw [f3] at g3
          obtain rfl := Option.some.inj g3
          have sT := same_upd (o := .tup [V.ref p, .ref p2]) hT
          have eT : upd H10 Tz (.tup [V.ref p, .ref p2]) Tz = some (.tup [V.ref p, .ref p2]) := upd_same
          generalize upd H10 Tz (.tup [V.ref p, .ref p2]) = H11 at sT eT ⊢
          have n2 : p2 ∉ ps := fun m => nwD _ (List.mem_cons_of_mem _ (List.mem_append_left _ (List.mem_of_getElem? g1))) (List.mem_cons_of_mem _ m)
          refine ⟨Tz, _, rfl, SqT.of eT, rfl, _, _, rfl, _, _, rfl, rfl, ?_⟩
          refine ⟨_, rfl, p2, _, 1, .ref rl2, rfl, rfl, SqL.of (sT _ _ (zz.br _ _ n2 i0)), rfl, _, rfl, p, _, 1, 1, rfl, rfl, sT _ _ (zz.later i p _ (Nat.le_refl _) f1 h0), rfl, ?_⟩
          exact ⟨_, _, rfl, zip_snoc zz wl9 wl29 (fun c m q => nwD c m (List.mem_cons_of_mem _ q)) sT f1 g2 f3 g4 ha i2 ir⟩
        · rintro σ H10 ⟨v11, v12, rfl, zz⟩
          rw [List.length_map, wl9.lp] at zz
          have wl10 := zip_end zz wl9 wl29 nwD
          have fz10 := zip_fz zz wl9
          have nl10 : NL H9 H10 := fun b o n e => zz.br b o (fun m => by
            obtain ⟨ys, e'⟩ := wl9.there b (List.mem_cons_of_mem _ (List.mem_append_left _ m))
            rw [e'] at e
            obtain rfl := Option.some.inj e
            exact n _ rfl) e
          have sa10 := sa9.nl nl10
          rw [← cs.st] at sa10
          have nps : ∀ {c : Addr}, H c = none → c ∉ ps := fun {c} e m => by
            obtain ⟨ys, e'⟩ := wl.there c (List.mem_cons_of_mem _ (List.mem_append_left _ m))
            rw [e] at e'
            cases e'
          have eD10 := zz.br _ _ (nps hD) eD9
          have ap : a ∉ ps := fun m => (off a (List.mem_cons_of_mem _ (List.mem_append_left _ m))).1 rfl
          have lp : l ∉ ps := fun m => (off l (List.mem_cons_of_mem _ (List.mem_append_left _ m))).2 rfl
          have hs10 : Src H10 a l ms8 z (b6 + 1) := ⟨zz.br _ _ ap hs9.hs, zz.br _ _ lp hs9.hl, hs9.len⟩
          obtain ⟨c1', d1'⟩ := bls_dp (K := K) (fz10 _ _ _ eq9) ho9
          obtain ⟨oq, eqq, hoq⟩ := tv9.fz fz10
          obtain ⟨c2', d2'⟩ := bls_dp (K := K) eqq hoq
          obtain ⟨c3', d3'⟩ := lst_dt (K := K) eD10 ((ch9.fz fz10).dpsF okt)
          refine ⟨_, rfl, .ref q9, _, 1, c1', rfl, d1', by decide, tbs, _, rfl, .ref q, _, 1, c2', rfl, d2', by decide, tbs, rfl, _, rfl, ?_⟩
          rw [decide_eq_true rfl]
          refine iteT ⟨_, rfl, .ref D, _, 3, c3', rfl, d3', by decide, tus, _, rfl, rfl, _, rfl, ?_⟩
          rw [decide_eq_true rfl]
          refine iteT ⟨_, rfl, _, rfl, ?_⟩
          dsimp only [tNil]
          refine ⟨st, dx, tp, rd, wv, qs9, w, ps, rls2, ts, rssj, rfl, sa10, wl10, wn, cs.wi, fun H11 s11 => ?_⟩
          refine k H11 ms8 (b6 + 1) qs9 rls2 rssj (fun c o n1 n2 n3 n4 e => s11 _ _ (zz.br _ _ n4 (du _ _ n3 (k8 _ _ n1 n2 (cs.kb _ _ n1 n2 e))))) (hs10.but s11) (by omega) (by omega) (sa10.same s11) (wl10.same s11) cs.wi fun c m => ?_
          rcases List.mem_cons.mp m with e | m
          · exact off c (e ▸ List.mem_cons_self)
          · rcases List.mem_append.mp m with m | m
            · exact off c (List.mem_cons_of_mem _ (List.mem_append_left _ m))
            · exact ow c (List.mem_cons_of_mem _ (List.mem_append_right _ m))
      · exact absurd (allc t (List.mem_of_getElem? e2)) (by rw [c]; exact Bool.false_ne_true)
    refine ⟨_, rfl, a, l, ms6, z, b6, 6, rfl, hs6, by decide, by decide, by omega, by omega, fun H7 ms7 r k7 hs7 r0 r1 => ⟨rfl, _, rfl, ?_⟩⟩
    refine ite2 (fun e5 => ?_) (fun _ => ?_)
    · have eD7 := k7 _ _ oD.1 oD.2 cs.eD
      have ch7 := cs.ch.fz (k7.fz hs6)
      refine ⟨_, rfl, by show 0 ≤ sizeLine; omega, fun q8 hq8 => ?_⟩
      have s8 := same_upd (o := .lst []) hq8
      have e8 : upd H7 q8 (.lst []) q8 = some (.lst []) := upd_same
      generalize upd H7 q8 (.lst []) = H8 at s8 e8 ⊢
      have k8 := k7.trans (But.of_same (s := a) (l := l) s8)
      have hs8 := hs7.but s8
      have eD8 := s8 _ _ eD7
      have ch8 := ch7.fz (Fz.of_same s8)
      refine chgs_ne ch8 eD8 e8 ⟨_, rfl, ?_⟩
      refine ite2 (fun ne => ?_) (fun _ => ?_)
      · have u0 : 0 < us.length := Nat.pos_of_ne_zero (of_decide_eq_true ne)
        refine ⟨_, rfl, _, rfl, D, xs, rfl, .inl (SqL.of eD8), a, l, ms7, z, b6 + 1, _, rfl, hs8, by omega, by omega, by omega, by omega, fun H9 ms9 r' k9 hs9 r0' r1' => ?_⟩
        obtain ⟨m, rfl⟩ : ∃ m : Nat, r' = (m : Int) := ⟨r'.toNat, by omega⟩
        have hm : m < us.length := by omega
        have eD9 := k9 _ _ oD.1 oD.2 eD8
        refine ⟨_, rfl, a, l, ms9, z, b6 + 1 + 1, rfl, hs9, by omega, by omega, fun H10 ms10 v t k10 hs10 mt dv => ?_⟩
        have eD10 := k10 _ _ oD.1 oD.2 eD9
        have k610 := (k8.trans k9).trans k10
        have fz610 : Fz H6 H10 := k610.fz hs6
        have ct := odds_no wn t mt
        have wt := odds_w t mt
        have noD : ∀ {H' : Hp} {c : Addr} {ys : List V}, H' D = some (.lst ys) → FrzAt H' c → c ≠ D := fun {H' c ys} e f q => by
          obtain ⟨o, u, e'⟩ := f
          rw [q, e] at e'
          cases e'
        have noA : ∀ {c : Addr}, FrzAt H10 c → Off a l c := fun {c} f => by
          obtain ⟨o, u, e'⟩ := f
          exact ⟨fun q => (by rw [q, hs10.hs] at e'; cases e'), fun q => (by rw [q, hs10.hl] at e'; cases e')⟩
        have ds10 : DPs K H10 (fun c => Off a l c ∧ c ≠ D) xs us 2 := ((cs.ch.fz fz610).dpsF okt).imp fun c f => ⟨noA f, noD eD10 f⟩
        have dv10 : DP K H10 (fun c => Off a l c ∧ c ≠ D) v t 2 := dv.imp fun c f => ⟨f.1, ne_of_none eD9 f.2 |>.symm⟩
        have ds11 : DPs K (upd H10 D (.lst (xs.set m v))) (fun c => Off a l c ∧ c ≠ D) (xs.set m v) (us.set m t) 2 := (DPs.set dv10 m ds10).keep fun c o f e => by
          rw [upd_ne f.2]
          exact e
        refine ⟨_, rfl, _, rfl, D, xs, _, m, rfl, rfl, eD10, ixn (by omega), ?_⟩
        have eD11 : upd H10 D (.lst (xs.set m v)) D = some (.lst (xs.set m v)) := upd_same
        have hs11 : Src (upd H10 D (.lst (xs.set m v))) a l ms10 z (b6 + 1 + 1 + 1) := hs10.put oD
        have kb11 : But a l H (upd H10 D (.lst (xs.set m v))) := (cs.kb.trans k610).put hD
        have lxm : (xs.set m v).length = us.length := by rw [List.length_set, lx]
        show tSeq _ _ _ _ (upd H10 D (.lst (xs.set m v)))
        generalize upd H10 D (.lst (xs.set m v)) = H11 at eD11 hs11 kb11 ds11 ⊢
        refine ⟨_, rfl, _, rfl, a, l, ms10, z, b6 + 1 + 1 + 1, rfl, hs11, by omega, by omega, fun H12 ms12 v2 t2 k12 hs12 mt2 dv2 => ⟨by show 1 ≤ sizeLine; omega, fun q13 hq13 => ?_⟩⟩
        have eD12 := k12 _ _ oD.1 oD.2 eD11
        have ds12 : DPs K H12 (Off a l) (xs.set m v) (us.set m t) 2 := (ds11.imp fun c f => f.1).keep fun c o f e => k12 _ _ f.1 f.2 e
        have dv12 : DP K H12 (Off a l) v2 t2 2 := dv2.imp fun c f => f.1
        have s13 := same_upd (o := .lst [v2]) hq13
        have e13 : upd H12 q13 (.lst [v2]) q13 = some (.lst [v2]) := upd_same
        generalize upd H12 q13 (.lst [v2]) = H13 at s13 e13 ⊢
        refine ⟨_, rfl, D, _, rfl, .inl (SqL.of (s13 _ _ eD12)), _, _, rfl, rfl, .inr ⟨_, rfl, ?_⟩⟩
        rw [lxm]
        obtain ⟨kk, ekk⟩ : ∃ kk : Bool, kk = decide (((us.length : Nat) : Int) < 3) := ⟨_, rfl⟩
        rw [← ekk]
        refine ⟨q13, _, [v2], rfl, rfl, e13, by cases kk <;> decide, by cases kk <;> decide, by cases kk <;> (show 1 * _ ≤ sizeLine; simp; try omega), fun q14 hq14 => ?_⟩
        have s14 := same_upd (o := .lst (List.replicate (if kk = true then (1 : Int) else 0).toNat [v2]).flatten) hq14
        have e14 : upd H13 q14 (.lst (List.replicate (if kk = true then (1 : Int) else 0).toNat [v2]).flatten) q14 = some (.lst (List.replicate (if kk = true then (1 : Int) else 0).toNat [v2]).flatten) := upd_same
        obtain ⟨ys, ws, ey, lw, dys, wws⟩ : ∃ (ys : List V) (ws : List Tr), (List.replicate (if kk = true then (1 : Int) else 0).toNat [v2]).flatten = ys ∧ us.length + ws.length ≤ 3 ∧ DPs K H12 (Off a l) ys ws 2 ∧ ∀ u ∈ ws, u.w ≤ 10000 := by
          cases kk with
          | true => exact ⟨[v2], [t2], rfl, by have := of_decide_eq_true ekk.symm; show us.length + 1 ≤ 3; omega, .cons dv12 .nil, fun u mu => by
              rw [List.mem_singleton.mp mu]
              exact Nat.le_trans (odds_w t2 mt2) (by decide)⟩
          | false => exact ⟨[], [], rfl, lu3, .nil, (fun _ h => nomatch h)⟩
        rw [ey] at s14 e14 ⊢
        generalize upd H13 q14 (.lst ys) = H14 at s14 e14 ⊢
        have t14 := s13.trans s14
        have lys : ys.length = ws.length := dys.length
        refine ⟨D, q14, xs.set m v, ys, rfl, rfl, t14 _ _ eD12, e14, by omega, fun L hL => ?_⟩
        have sL := same_upd (o := .lst (xs.set m v ++ ys)) hL
        have eL : upd H14 L (.lst (xs.set m v ++ ys)) L = some (.lst (xs.set m v ++ ys)) := upd_same
        have ds15 := ((ds12.append dys).same (t14.trans sL))
        show tSeq _ _ _ _ (upd H14 L (.lst (xs.set m v ++ ys)))
        generalize upd H14 L (.lst (xs.set m v ++ ys)) = H15 at sL eL ds15 ⊢
        have s15 := t14.trans sL
        have kb15 := (kb11.trans k12).trans (But.of_same (s := a) (l := l) s15)
        have hs15 := hs12.but s15
        have sa15 := sa.nl (kb15.nl hs)
        have lset : (us.set m t).length = us.length := List.length_set
        refine ⟨_, rfl, _, rfl, 12, st, dx, tp, rd, L, wv, ts, qs, rss.map sortR, _, us.set m t ++ ws, rfl, sa15, eL, dps_each ds15 ?_, by rw [List.length_append, lset]; exact lw, wi.rk.sort.fit okt, by decide, fun al => ?_, fun i v' t' e1 e2 c al q16 H16 s16 nq16 e16 => ?_⟩
        · intro u mu
          rcases List.mem_append.mp mu with mu | mu
          · rcases List.mem_or_eq_of_mem_set mu with mu | e
            · exact ewu u mu
            · rw [e]
              exact Nat.le_trans wt (by decide)
          · exact wws u mu
        · have := al t (List.mem_of_getElem? (set_at (ws := ws) hm))
          rw [ct] at this
          cases this
        · have im := odd_first hm allc ct e2 c al
          subst im
          rw [set_at (by rw [lx]; exact hm)] at e1
          obtain rfl := Option.some.inj e1
          obtain ⟨t', et', dvv⟩ := ds15.get (set_at (by rw [lx]; exact hm))
          rw [set_at hm] at et'
          obtain rfl := Option.some.inj et'
          have cell : DP K H15 (Off a l) (.str "invalid") (.str "invalid") 2 := ⟨[], .str (by decide +kernel) (by decide +kernel), (fun _ h => nomatch h)⟩
          have two15 : DPs K H15 (Off a l) [.str "invalid", v] [.str "invalid", t] 2 := .cons cell (.cons dvv .nil)
          have two16 := ((two15.there.imp (Q := fun c => ∃ o, H15 c = some o) fun c f => f.2).same s16)
          have txt : (Tr.lst [.str "invalid", t]).text.length ≤ sizeLine := by
            have x1 := Tr.text_le (.lst [.str "invalid", t])
            have x2 : (Tr.lst [.str "invalid", t]).w = 3 + (((reprText "invalid").length + 2) + ((t.w + 2) + 0)) := rfl
            have x3 : (reprText "invalid").length ≤ 20 := by decide +kernel
            omega
          have mk : ∀ {H' : Hp} {c : Addr}, Same H16 H' → H15 c = none → H' c = some (.lst [.str "invalid", v]) → ∃ bs, Dt K H' (.ref c) (.lst [.str "invalid", t]) 3 bs := fun {H' c} ss n e => by
            obtain ⟨bs, d, hb⟩ := two16.same ss
            exact ⟨_, .lst e d fun mq => by
              obtain ⟨o, eo⟩ := hb _ mq
              rw [n] at eo
              cases eo⟩
          obtain ⟨bs16, d16⟩ := mk (Same.refl _) nq16 e16
          refine ⟨_, rfl, .ref q16, _, 3, bs16, rfl, d16, by decide, txt, ?_⟩
          have eL16 := s16 _ _ eL
          refine ⟨_, rfl, _, rfl, L, _, _, v, rfl, rfl, SqL.of eL16, atI_nat (set_at (by rw [lx]; exact hm)), by show 2 ≤ sizeLine; omega, fun q17 hq17 => ?_⟩
          have s17 := same_upd (o := .lst [V.str "invalid", v]) hq17
          obtain ⟨bs17, d17⟩ := mk s17 (s16.free hq17) upd_same
          generalize upd H16 q17 (.lst [V.str "invalid", v]) = H17 at s17 d17 ⊢
          refine ⟨_, _, 3, bs17, rfl, d17, by decide, txt, rfl, _, rfl, ?_⟩
          rw [decide_eq_true rfl]
          have s1517 := s16.trans s17
          have kb17 := kb15.trans (But.of_same (s := a) (l := l) s1517)
          refine iteT ⟨_, rfl, _, rfl, ?_⟩
          dsimp only [tNil]
          refine ⟨st, dx, tp, rd, wv, qs, w, ps, rls, ts, rss, rfl, sa15.same s1517, keepw kb17, wn, wi, fun H18 s18 => ?_⟩
          exact k H18 ms12 _ qs rls rss (.of_but (kb17.trans (But.of_same s18))) ((hs15.but s1517).but s18) (by omega) (by omega) ((sa15.same s1517).same s18) ((keepw kb17).same s18) wi off
      · exact nxt _ _ ⟨rfl, ms7, k8, hs8⟩
    · exact nxt _ _ ⟨rfl, ms7, k7, hs7⟩
end
end Vm
/-! Store.tables; the law: whether no store is made of some values -/
namespace Vm
open PySem PySem.Spec PyProof.Rows L2
abbrev sRefused : Stmt := top 63
def spSTables (K : PySem.W.Frag) (C CT : Addr) : Sp := fun vs H Q _ => ∃ (st dx tp rd : Addr) (ws : List V) (ts : List Ti) (qs : List Addr) (rss : List (List Row)), vs = [.ref st] ∧ StAt K H C CT st dx tp rd ws ts qs rss ∧ Q (.ref tp) H
theorem NotTb.same {K : PySem.W.Frag} {H H' : Hp} {v : V} (h : NotTb K H v) (k : Same H H') : NotTb K H' v := let ⟨t, f⟩ := h; ⟨t, fun H2 s => f H2 (k.trans s)⟩
theorem ItAt.same {K : PySem.W.Frag} {H H' : Hp} {CT : Addr} {v : V} {o : Option Ti} (h : ItAt K H CT v o) (k : Same H H') : ItAt K H' CT v o := by
  cases o with
  | none => exact NotTb.same h k
  | some t => exact TbAt.same h k
theorem its_same {K : PySem.W.Frag} {H H' : Hp} {CT : Addr} {vs : List V} {os : List (Option Ti)} (h : ItsAt K H CT vs os) (k : Same H H') : ItsAt K H' CT vs os := h.mono fun _ _ z => z.same k
/-- what the written part says of InvalidStore when it is caught -/
structure TxtY (K : PySem.W.Frag) (mg : Str → Option Value) (CZ tT : Addr) : Prop where
  gT : mg "TurnError" = some (.ref tT)
  gVE : mg "ValueError" = none
  xc : ExcC K CZ
  em : PySem.W.exmOne K (.ref CZ) (.ref CZ) = some true
  k1 : PySem.W.kitOne K (.ref CZ) (.ref tT) = some true
  k2 : PySem.W.kitOne K (.ref CZ) (.type "ValueError") = some true
def spRefused (K : PySem.W.Frag) (CT : Addr) : Sp := fun vs H Q _ => ∃ (D : Addr) (xs : List V) (its : List (Option Ti)), vs = [.ref D] ∧ H D = some (.lst xs) ∧ ItsAt K H CT xs its ∧ (xs.length = 0 ∨ xs.length = 2 ∨ xs.length = 4) ∧ (¬ ∃ ts, GoodIts its ts) ∧ ∀ H', Same H H' → Q (.bl true) H'
/-- Store(*tables), by position -/
abbrev spSInitR (K : PySem.W.Frag) (C CT CZ : Addr) : Sp := fun vs H Q E => ∃ ws rest, vs = ws ++ rest ∧ ws.length = (["self"] : List Str).length ∧ rest.length ≤ sizeLine ∧ ∀ p, H p = Option.none → spSInitX K C CT CZ (ws ++ [V.ref p]) (upd H p (.tup rest)) Q E
theorem pss_cond {X : Cx} {b : List Stmt} {c : Prop} {t : TS} (k : c → PSs X b t) : PSs X b (fun D σ H => c ∧ t D σ H) := ⟨fun pins s σ H D I h => (k h.1).run pins s σ H D I h.2⟩
theorem four_of {α : Type} : ∀ {xs : List α}, xs.length = 4 → ∃ a b c d, xs = [a, b, c, d]
  | [a, b, c, d], _ => ⟨a, b, c, d, rfl⟩
section
variable {P : Program} {w : World} {K : PySem.W.Frag} {mg : Str → Option Value} {base : Heap} {fNm fNms C CT CZ tT fTO fRO fIC fIP fSI : Addr}
theorem ok_stables {f : Addr} {fd : FuncData} (F : Fun K "tables" "Store.tables" sSTables f fd) (S : TxtS K mg C fTO fRO fIC fIP) : FnOk P w K mg base CX0 1 f fd ["self"] (spSTables K C CT) := by
  refine F.ok scSTables (fun vs H Q E h => ?_) (fun cdv A outer s H vs Q E hr h => ?_)
  · obtain ⟨st, dx, tp, rd, ws, ts, qs, rss, rfl, _⟩ := h
    rfl
  · obtain ⟨st, dx, tp, rd, ws, ts, qs, rss, rfl, sa, k⟩ := h
    refine ⟨_, pss_one (ps_ret (pe_fld (pv 0) rfl)), ?_⟩
    exact ⟨_, rfl, st, C, dx, _, _, rfl, sa.hs, S.cl, S.nT, rfl, k⟩
theorem scRefused : FnScope ["_law_some", "_law_found", "e"] ["_law_some"] (defScope sRefused) := ⟨rfl, rfl, rfl, by decide +kernel, rfl, by decide +kernel, by decide +kernel⟩
theorem ok_refused {f : Addr} {fd : FuncData} (F : Fun K "_law_refused" "_law_refused" sRefused f fd) (T : TxtP K mg fNm fNms) (S : TxtS K mg C fTO fRO fIC fIP) (Z : TxtZ K mg CZ) (Y : TxtY K mg CZ tT) (MS : Mk K C fSI)
    (GI : FnR P w K mg base (L2.CX P w) 2 fSI (spSInitR K C CT CZ)) : FnOk P w K mg base CX0 4 f fd ["_law_some"] (spRefused K CT) := by
  refine F.ok scRefused (fun vs H Q E h => ?_) (fun cdv A outer s H vs Q E hr h => ?_)
  · obtain ⟨D, xs, its, rfl, _⟩ := h
    rfl
  · obtain ⟨D, xs, its, rfl, eD, hi, len, bad, k⟩ := h
    have big : sizeLine > 100000 := by decide
    let ln : Int → TT := fun n => tTest (tOp rEq (tCB (rLenS K) (tCons (tVar 0) tNil)) (tC (.int n)))
    let ix : Int → TE := fun n => tOp (rIxL K) (tVar 0) (tC (.int n))
    let go : WX → TA → TS := fun Wx t => tDrop (tMakeRS C (spSInitR K C CT CZ) (WE Wx) t)
    let tb : WX → TS := fun Wx => tIfS (ln 0) (go Wx tNil) (tIfS (ln 2) (go Wx (tCons (ix 0) (tCons (ix 1) tNil))) (go Wx (tCons (ix 0) (tCons (ix 1) (tCons (ix 2) (tCons (ix 3) tNil))))))
    let isi : Addr → V → TT := fun a c => tB (tCB (rIsE K CZ a) (tCons (tVar 2) (tCons (tC c) tNil)))
    let th : Addr → Value → Option Addr → TS := fun a cls d D σ H => (cls = .ref CZ ∧ d = none) ∧ tAsg (tIf (tAnd (isi a (.ref tT)) (isi a (.ty "ValueError"))) (tC (.str "refused")) (tC (.str "odd"))) (gName 1) D σ H
    refine ⟨_, pss_cons (ps_set (i := 1) scRefused.nd rfl (Or.inl rfl) pe_str)
      (pss_cons (ps_try_as (i := 2) (tb := tb) (ts := th) (Wout := fun _ _ _ _ => False) rfl rfl scRefused.nd rfl rfl ⟨rfl, by decide, Or.inl Z.g⟩ takes0
        (fun Wx pn xe tk _ => pss_one (by exact (ps_if (by exact (pt_cmpR op_eq (pe_callB call_len_seq (by rfl) T.len (by decide +kernel) (pa_cons (pv 0) pa_nil)) pe_int (nomark _)))
          (pss_one (ps_expr (by exact (pe_makeRS0 MS GI hr (by rfl) S.gC (fun σ => passAt tk σ)))))
          (pss_one (by exact (ps_if (by exact (pt_cmpR op_eq (pe_callB call_len_seq (by rfl) T.len (by decide +kernel) (pa_cons (pv 0) pa_nil)) pe_int (nomark _)))
            (pss_one (ps_expr (by exact (pe_makeRS MS GI hr (by rfl) S.gC (fun σ => passAt tk σ) (pa_cons (pe_ix ix_list (pv 0) pe_int (fun _ _ => rfl)) (pa_cons (pe_ix ix_list (pv 0) pe_int (fun _ _ => rfl)) pa_nil))))))
            (pss_one (ps_expr (by exact (pe_makeRS MS GI hr (by rfl) S.gC (fun σ => passAt tk σ) (pa_cons (pe_ix ix_list (pv 0) pe_int (fun _ _ => rfl)) (pa_cons (pe_ix ix_list (pv 0) pe_int (fun _ _ => rfl)) (pa_cons (pe_ix ix_list (pv 0) pe_int (fun _ _ => rfl)) (pa_cons (pe_ix ix_list (pv 0) pe_int (fun _ _ => rfl)) pa_nil))))))))))))))
        (fun a oe cls d pn hz hf => pss_cond (c := cls = .ref CZ ∧ d = none) (fun hc => by
          obtain ⟨rfl, rfl⟩ := hc
          exact pss_one (ps_set (i := 1) scRefused.nd rfl (Or.inl rfl) (by exact (pe_ifExp (PW.pt (pw_and
            (pt_val (pe_callB (call_isE Y.xc hz hf) (by rfl) T.isi (by decide +kernel) (pa_cons (pv 2) (pa_cons (pe_glob (v := .ref tT) (by rfl) Y.gT rfl) pa_nil))))
            (pw_and1 (pt_val (pe_callB (call_isE Y.xc hz hf) (by rfl) T.isi (by decide +kernel) (pa_cons (pv 2) (pa_cons (pe_bltn (v := .ty "ValueError") (by rfl) Y.gVE (by decide +kernel) rfl) pa_nil))))))) pe_str pe_str))))))
      (pss_one (ps_ret (pe_cmpR op_eq (pv 1) pe_str (nomark _))))), ?_⟩
    let Dn : V → Hp → Prop := fun _ H1 => tRet (tOp rEq (tVar 1) (tC (.str "refused"))) { nx := fun _ H' => Q .non H', rt := Q } [some (.ref D), some (.str "none"), none] H1
    have fin : ∀ x dx, H x = none → H dx = none → dx ≠ x → spSInitR K C CT CZ (.ref x :: xs) (upd (upd H dx (.own x)) x (.ins C dx [])) (fun v H2 => v = .non ∧ Dn (.ref x) H2)
        (WE (wAs K (.ref CZ) 2 th (fun _ _ _ _ => False) { nx := tRet (tOp rEq (tVar 1) (tC (.str "refused"))) { nx := fun _ H' => Q .non H', rt := Q }, rt := Q }) [some (.ref D), some (.str "none"), none]) := fun x dx nx ndx ne => by
      refine ⟨[.ref x], xs, rfl, rfl, by omega, fun p hp => ?_⟩
      have px : x ≠ p := fun e => by
        rw [← e, upd_same] at hp
        cases hp
      have sx : Same H (upd (upd (upd H dx (.own x)) x (.ins C dx [])) p (.tup xs)) := fun b u e => by
        have e2 : upd (upd H dx (.own x)) x (.ins C dx []) b = some u := by
          rw [upd_ne (ne_of_none e nx), upd_ne (ne_of_none e ndx)]
          exact e
        rw [upd_ne (ne_of_none e2 hp)]
        exact e2
      refine ⟨x, dx, p, xs, its, rfl, by rw [upd_ne px, upd_same], SqT.of upd_same, its_same hi sx, by omega, fun ts g => absurd ⟨ts, g⟩ bad, fun _ H' s' => ?_⟩
      refine ⟨true, Y.em, fun _ a ha => ⟨⟨rfl, rfl⟩, ?_⟩, fun q => nomatch q⟩
      refine ⟨_, rfl, .ref tT, .ref tT, true, rfl, fun u r => r, Y.k1, _, rfl, ?_⟩
      refine iteT ⟨_, rfl, .ty "ValueError", .type "ValueError", true, rfl, fun u r => r, Y.k2, _, rfl, ?_⟩
      refine iteT ?_
      refine ⟨_, rfl, rfl, ?_⟩
      rw [decide_eq_true rfl]
      exact k _ (sx.trans s')
    refine ⟨_, rfl, D, xs, rfl, .inl (SqL.of eD), rfl, _, rfl, ?_⟩
    refine ite2 (fun e => ?_) (fun e0 => ?_)
    · have e1 := V.int.inj (of_decide_eq_true e)
      obtain rfl : xs = [] := List.eq_nil_of_length_eq_zero (by omega)
      exact fin
    have n0 : xs.length ≠ 0 := fun z => e0 (decide_eq_true (by rw [z]; rfl))
    refine ⟨_, rfl, D, xs, rfl, .inl (SqL.of eD), rfl, _, rfl, ?_⟩
    refine ite2 (fun e => ?_) (fun e1 => ?_)
    · have e1 := V.int.inj (of_decide_eq_true e)
      obtain ⟨a, a2, rfl⟩ := two_of (xs := xs) (by omega)
      exact ⟨_, rfl, D, _, ((0 : Nat) : Int), a, rfl, rfl, SqL.of eD, atI_nat rfl, _, rfl, D, _, ((1 : Nat) : Int), a2, rfl, rfl, SqL.of eD, atI_nat rfl, fin⟩
    have n2 : xs.length ≠ 2 := fun z => e1 (decide_eq_true (by rw [z]; rfl))
    obtain ⟨a, a2, a3, a4, rfl⟩ := four_of (xs := xs) (by omega)
    exact ⟨_, rfl, D, _, ((0 : Nat) : Int), a, rfl, rfl, SqL.of eD, atI_nat rfl, _, rfl, D, _, ((1 : Nat) : Int), a2, rfl, rfl, SqL.of eD, atI_nat rfl, _, rfl, D, _, ((2 : Nat) : Int), a3, rfl, rfl, SqL.of eD, atI_nat rfl, _, rfl, D, _, ((3 : Nat) : Int), a4, rfl, rfl, SqL.of eD, atI_nat rfl, fin⟩
end
end Vm
/-! t != u of two tuples whose items are equal by their own == -/
namespace GQ
open PySem PySem.SeqAt
open AutoSeq1 (wpAny_loadPart')
open MeetsSeq MeetsSeq2 MeetsSeq3 SeqRoads2
section
variable {prog : Program} {w : World} {A : Around} {R : Result → Shared → Prop}
theorem tuple_unequal_not (pa qa : Addr) (us zs : Array Value) (cu cz : Nat) (du dz : Option Addr) (su sz : Array (Option Value)) (same : us.size = zs.size) (J : Nat → Shared → Prop)
    (each : ∀ i (l1 : i < us.size) (l2 : i < zs.size) t, J i t → wpAny (model prog w) A.in1 (eqBool us[i] zs[i]) (fun r t' => r = true ∧ J (i + 1) t') (fun e t' => R (.error e) t') t)
    (last : ∀ t, J us.size t → R (.ok (.ret (.bool false))) t) {s : Shared} (hp : s.heap.get? pa = some { cls := .type "tuple", dict := du, data := .seq us cu, slots := su }) (hq : s.heap.get? qa = some { cls := .type "tuple", dict := dz, data := .seq zs cz, slots := sz }) (h0 : J 0 s) :
    wpAny (model prog w) A.in1 (Builtin.«tuple.__ne__» ⟨[.ref pa, .ref qa], []⟩) (FinOf prog w A R) (fun e t' => R (.error e) t') s := by
  have known := AutoSeq1.sub_tuple_tuple
  have lenZ : (us.toList.zip zs.toList).length = us.size := by simp [same]
  have start := h0
  obtain ⟨hh, gg, dd, tt, oo⟩ := s
  wp_walk using wpAny_loadPart' hp, wpAny_loadPart' hq, wpAny_forIn_list _ (fun left c t' => c.1 = none ∧ ∃ i, left = (us.toList.zip zs.toList).drop i ∧ i ≤ us.size ∧ J i t') _
  case turn =>
    rintro ⟨y, x⟩ left c t' ⟨ec, i, el, li, ji⟩
    have lt : i < (us.toList.zip zs.toList).length := by
      rcases Nat.lt_or_ge i (us.toList.zip zs.toList).length with l | l
      · exact l
      · rw [List.drop_of_length_le l] at el
        cases el
    have lu : i < us.size := lenZ ▸ lt
    have lz : i < zs.size := same ▸ lu
    rw [List.drop_eq_getElem_cons lt] at el
    injection el with epair erest
    have ey : y = us[i] := by
      have := congrArg Prod.fst epair
      simpa using this
    have ex : x = zs[i] := by
      have := congrArg Prod.snd epair
      simpa using this
    subst ey ex
    refine wpAny_bind (wpAny_mono (each i lu lz t' ji) (fun r t2 q2 => ?_) fun _ _ e => e)
    obtain ⟨er, j2⟩ := q2
    subst er
    wp_walk
    exact ⟨rfl, i + 1, erest, lu, j2⟩
  case fin =>
    rintro ⟨c1, c2⟩ t' ⟨ec, i, el, li, ji⟩
    simp only at ec
    subst ec
    have all : us.size ≤ i := by
      rcases Nat.lt_or_ge i (us.toList.zip zs.toList).length with l | l
      · rw [List.drop_eq_getElem_cons l] at el
        cases el
      · exact lenZ ▸ l
    have ei : i = us.size := by omega
    have done : R (.ok (.ret (.bool false))) t' := last t' (ei ▸ ji)
    wp_walk
    simpa [Builtin.Tuple.tupleCompareSizes, same] using done
  case h =>
    exact ⟨rfl, 0, rfl, Nat.zero_le _, start⟩
end
section
variable {prog : Program} {w : World} {A : Around} {E : Value → Shared → Prop} {s : Shared}
theorem rich_tuple_not {pa qa : Addr} {us zs : Array Value} {Q : Value → Shared → Prop} (same : us.size = zs.size) (room : A.units < cLine) (J : Nat → Shared → Prop) (hp : s.heap.IsTuple pa us) (hq : s.heap.IsTuple qa zs)
    (each : ∀ i (l1 : i < us.size) (l2 : i < zs.size) t, J i t → wpAny (model prog w) A.in1 (eqBool us[i] zs[i]) (fun r t' => r = true ∧ J (i + 1) t') E t)
    (last : ∀ t, J us.size t → Q (.bool false) t) (h0 : J 0 s) : wpAny (model prog w) A (richCompare .NotEq (.ref pa) (.ref qa)) Q E s := by
  obtain ⟨⟨cu, du, au, su⟩, op, ep, nu, gu⟩ := id hp
  obtain ⟨⟨cz, dz, az, sz⟩, oq, eq, nz, gz⟩ := id hq
  simp only at ep gu eq gz
  subst ep gu eq gz
  refine wpAny_richCompare_same_room (op := .NotEq) ⟨_, op, rfl⟩ ⟨_, oq, rfl⟩ F.slot_tuple_ne (call_here F.slot_tuple_ne ⟨_, op, rfl⟩ F.entry_tuple_ne (F.args_tuple_ne_2 _ _) ?_) room
  exact tuple_unequal_not (R := wants (fun v t' => v ≠ .notImplemented ∧ Q v t') E) pa qa us zs nu nz du dz su sz same J each (fun t q => ⟨(fun x => nomatch x), last t q⟩) op oq h0
end
end GQ
namespace Vm
open PySem PySem.Spec PyProof.Rows L2
section
variable {X : Cx} {n : Nat} {D : Eqv}
/-- t != u: the tuples' items are equal -/
def rNeTup (K : PySem.W.Frag) (D : Eqv) : R2 := fun x y H Q => DTup K D x y H ∧ ∀ H', Ext H H' → Q (.bl false) H'
theorem op_neTup (mono : Mon D) (h : EqG X n D) (hr : Room (n + 1) X.A) : OpR X (compareOp .NotEq) (rNeTup X.K D) := by
  intro pins s σ H x y v u Q I rx ry hq
  obtain ⟨⟨a, b, xs, ys, rfl, rfl, ha, hb, p⟩, q⟩ := hq
  cases (show v = Value.ref a from rx)
  cases (show u = Value.ref b from ry)
  obtain ⟨is, r, e, z⟩ := I.tuple ha
  obtain ⟨is2, r2, e2, z2⟩ := I.tuple hb
  have same : is.toArray.size = is2.toArray.size := by
    rw [List.size_toArray, List.size_toArray, ← r.length, ← r2.length]
    exact p.1
  show wpAny (model X.prog X.w) X.A (richCompare .NotEq (.ref a) (.ref b)) (EP X pins σ Q) X.xe s
  refine GQ.rich_tuple_not same hr.units0 (fun _ t => LoopI X pins σ H t) e e2 (fun i l1 l2 t l => turnG mono h (sb := ⟨hr, rfl⟩) p r r2 i l1 l2 t l) (fun t l => ?_) ⟨H, I, Ext.rfl'⟩
  obtain ⟨H', I', e'⟩ := l
  exact ⟨.bl false, H', I', rfl, q H' e'⟩
/-- the same objects -/
def DSame : Eqv := fun x y _ => ∃ a, x = .ref a ∧ y = .ref a
theorem eqG_same : EqG X 0 DSame := by
  intro A pins s σ H x y u v sb I rx ry d
  obtain ⟨a, rfl, rfl⟩ := d
  cases (show u = Value.ref a from rx)
  cases (show v = Value.ref a from ry)
  exact SeqAt.EqAt.same (A := A) (s := s) (.ref a) X.prog X.w X.xe _ ⟨rfl, H, I, Ext.rfl'⟩
theorem mon_same : Mon DSame := fun _ _ _ _ _ d => d
end
end Vm
/-! the law: what stores are made of -/
namespace Vm
open PySem PySem.Spec PyProof.Rows L2 ClX StX
abbrev sMaking : Stmt := top 64
abbrev tA (nm : Str) : Ti := ⟨nm, [Str.ofString "a"], [], []⟩
abbrev tO : Ti := ⟨Str.ofString "x", [], [Str.ofString "p"], [Str.ofString "p"]⟩
theorem valid_a {nm : Str} (h : nmS nm = true) : valid (.str nm) (.tup ([Str.ofString "a"].map Tr.str)) (.tup (([] : List Str).map Tr.str)) (.tup (([] : List Str).map Tr.str)) = true := by
  have e : (areCols (.tup ([Str.ofString "a"].map Tr.str)) (.tup (([] : List Str).map Tr.str)) && isKey (.tup (([] : List Str).map Tr.str)) (strsOf (.tup ([Str.ofString "a"].map Tr.str)) ++ strsOf (.tup (([] : List Str).map Tr.str)))) = true := by decide +kernel
  unfold valid
  rw [e, Bool.and_true]
  exact h
theorem valid_o {nm : Str} (h : nmS nm = true) : valid (.str nm) (.tup (([] : List Str).map Tr.str)) (.tup ([Str.ofString "p"].map Tr.str)) (.tup ([Str.ofString "p"].map Tr.str)) = true := by
  have e : (areCols (.tup (([] : List Str).map Tr.str)) (.tup ([Str.ofString "p"].map Tr.str)) && isKey (.tup ([Str.ofString "p"].map Tr.str)) (strsOf (.tup (([] : List Str).map Tr.str)) ++ strsOf (.tup ([Str.ofString "p"].map Tr.str)))) = true := by decide +kernel
  unfold valid
  rw [e, Bool.and_true]
  exact h
theorem TupE.dp {K : PySem.W.Frag} {H : Hp} {P : Addr → Prop} {a : Addr} {ss : List Str} {n : Nat} (h : TupE K H a (ss.map V.str)) (hn : ss.all nmS = true) (hP : ∀ o u, H a = some (.frz o u) → P a) : DP K H P (.ref a) (.tup (ss.map Tr.str)) (n + 1) := by
  rcases h with ⟨e, h⟩ | ⟨o, e, d⟩
  · cases ss with
    | nil => exact ⟨[], .emp h, fun _ h => nomatch h⟩
    | cons _ _ => cases e
  · obtain ⟨bs, r, q⟩ := DPs.nms (K := K) (H := H) (P := fun _ => False) (n := n) hn
    exact ⟨a :: bs, .tup e d r (fun m => q a m), fun c hc => (List.mem_cons.mp hc).elim (fun y => y ▸ hP _ _ e) fun m => (q c m).elim⟩
theorem map_some : ∀ {a b : List Ti}, a.map some = b.map some → a = b
  | [], [], _ => rfl
  | [], _ :: _, h => nomatch h
  | _ :: _, [], h => nomatch h
  | x :: a, y :: b, h => by
    rw [List.map_cons, List.map_cons] at h
    injection h with h1 h2
    rw [Option.some.inj h1, map_some h2]
theorem bad_none {its : List (Option Ti)} (h : none ∈ its) : ¬ ∃ ts, GoodIts its ts := fun ⟨ts, e, _⟩ => by
  rw [e] at h
  obtain ⟨t, _, e⟩ := List.mem_map.mp h
  cases e
theorem bad_some {ts0 : List Ti} (h : ¬ (1 ≤ ts0.length ∧ ts0.length ≤ 3 ∧ (ts0.map Ti.nm).Nodup)) : ¬ ∃ ts, GoodIts (ts0.map some) ts := fun ⟨ts, e, r⟩ => by
  have e := map_some e
  subst e
  exact h r
theorem SqT.ty {K : PySem.W.Frag} {H : Hp} {a : Addr} {xs : List V} (h : SqT K H a xs) : TyX K H (.ref a) (.type "tuple") := by
  rcases h with h | ⟨o, its, n, e, c, _⟩
  · rcases h with h | ⟨o, h⟩
    · exact .base (.tup h)
    · exact .fTuple h
  · exact .kTuple e c
theorem prs_same {H : Hp} : ∀ {xs : List V}, (∀ x ∈ xs, ∃ a, x = V.ref a) → Prs DSame xs xs H := fun {xs} h => ⟨rfl, fun i x y e1 e2 => by
  rw [e1] at e2
  obtain rfl := Option.some.inj e2
  obtain ⟨a, rfl⟩ := h x (List.mem_of_getElem? e1)
  exact ⟨a, rfl, rfl⟩⟩
theorem tbs_refs {K : PySem.W.Frag} {H : Hp} {CT : Addr} {ws : List V} {ts : List Ti} (h : TbsAt K H CT ws ts) : ∀ x ∈ ws, ∃ a, x = V.ref a := fun x m => by
  obtain ⟨i, e⟩ := List.mem_iff_getElem?.mp m
  obtain ⟨t, _, a, rfl, _⟩ := each_get h e
  exact ⟨a, rfl⟩
def spMaking : Sp := fun vs H Q _ => ∃ (s l : Addr) (ms : List Int) (z b : Int) (wv : V), vs = [.ref s, wv] ∧ Src H s l ms z b ∧ 0 ≤ b ∧ b < 900000 ∧ ∀ H' ms', But s l H H' → Src H' s l ms' z (b + 1) → Q (.bl true) H'
section
variable {P : Program} {w : World} {K : PySem.W.Frag} {mg : Str → Option Value} {base : Heap} {fNm fNms fCols fKey C CT CI CZ fI fD fP fTO fRO fIC fIP fSI fRf pT gT e1 e2 : Addr} {ds1 : List Value} {mc uM : Value}
theorem scMaking : FnScope ["_law_source_here", "_law_world_here", "_law_one", "_law_two", "_law_three", "_law_four", "_law_other", "_law_odd_here", "_law_some", "_law_found", "_law_name"] ["_law_source_here", "_law_world_here"] (defScope sMaking) := ⟨rfl, rfl, rfl, by decide +kernel, rfl, by decide +kernel, by decide +kernel⟩
theorem ok_making {f : Addr} {fd fdP fdI fdRf fdT : FuncData} (F : Fun K "_law_making_right" "_law_making_right" sMaking f fd) (T : TxtP K mg fNm fNms) (L : TxtL K mg fD fP) (U : TxtT K mg CT CI fCols fKey) (S : TxtS K mg C fTO fRO fIC fIP) (rp : mg "repr" = none) (M : Mk K CT fI)
    (GP : FnOk P w K mg base CX0 2 fP fdP ["_law_source_here", "_law_items"] (spPick K)) (bP : Binds K fdP ["_law_source_here", "_law_items"] [])
    (GI : FnOk P w K mg base (L2.CX P w) 4 fI fdI ["self", "name", "names", "numbers", "key"] (spInit K CT CI)) (bI : Binds K fdI ["self", "name", "names", "numbers", "key"] []) (b1 : Binds K fdI ["self", "name", "names", "numbers", "key"] ds1) (r1 : Vals [.ref e1, .ref e2] ds1) (t1 : KTup K e1) (t2 : KTup K e2)
    (MS : Mk K C fSI) (GS : FnR P w K mg base (L2.CX P w) 2 fSI (spSInitR K C CT CZ))
    (cRf : Calls K mg "_law_refused" fRf) (GRf : FnOk P w K mg base CX0 4 fRf fdRf ["_law_some"] (spRefused K CT)) (bRf : Binds K fdRf ["_law_some"] [])
    (pp : PropOf K C "tables" pT gT) (GT : FnOk P w K mg base CX0 1 gT fdT ["self"] (spSTables K C CT)) (bT : Binds K fdT ["self"] []) (cr : CRead K C mc) (cv : CVal K C mc "MOST" (.int 3) uM) :
    FnG P w K mg base CX0 6 f fd ["_law_source_here", "_law_world_here"] spMaking := by
  refine okG0 F scMaking (fun vs H Q E h => ?_) (fun cdv A outer s H vs Q E ag hr h => ?_)
  · obtain ⟨s, l, ms, z, b, wv, rfl, _⟩ := h
    rfl
  · obtain ⟨a, l, ms, z, b, wv, rfl, hs, b0, b1', k⟩ := h
    have hr1 : Room 1 _ := hr.mono (by decide)
    have hr2 : Room 2 _ := hr.mono (by decide)
    have hr3 : Room 3 _ := hr.mono (by decide)
    have hr4 : Room 4 _ := hr.mono (by decide)
    have hu : (A.deeper (PyProof.Rows.envOfC "_law_making_right" (defScope sMaking) s.heap.objs.size f cdv)).units + 16 < cLine := by
      have := hr.units
      omega
    have big : sizeLine > 100000 := by decide
    refine ⟨_, pss_cons (ps_asg (pe_lc (own := [("_law_name", 10)]) (g := gName 10) (tt := tYes) (te := tMake CT (spInit K CT CI) [.ref e1, .ref e2] (fun _ _ _ => False) (tCons (tVar 10) (tCons (tTupF (tCons (tC (.str "a")) tNil)) tNil))) rfl scMaking.nd (pi_tup (pe_tupF (pa_cons pe_str (pa_cons pe_str (pa_cons pe_str (pa_cons pe_str pa_nil)))))) (blkOk_by (N := ["_law_source_here", "_law_world_here", "_law_one", "_law_two", "_law_three", "_law_four", "_law_other", "_law_odd_here", "_law_some", "_law_found", "_law_name"]) (sc := defScope sMaking) (by decide +kernel)) (fun _ _ _ _ _ => pg_name (i := 10) scMaking.nd rfl (Or.inl rfl)) (fun _ _ _ _ _ => pts_nil) (fun _ _ _ _ _ => by exact (pe_make M GI hr rfl U.gC b1 r1 passF (pa_cons (pv 10) (pa_cons (pe_tupF (pa_cons pe_str pa_nil)) pa_nil))))) (pg_lst rfl (pgs_cons (pg_name (i := 2) scMaking.nd rfl (Or.inl rfl)) (pgs_cons (pg_name (i := 3) scMaking.nd rfl (Or.inl rfl)) (pgs_cons (pg_name (i := 4) scMaking.nd rfl (Or.inl rfl)) (pgs_cons (pg_name (i := 5) scMaking.nd rfl (Or.inl rfl)) pgs_nil))))))
      (pss_cons (ps_par (i := 6) (j := 7) rfl scMaking.nd rfl rfl (by decide) rfl rfl (pa_cons (pe_make M GI hr rfl U.gC bI .nil passF (pa_cons pe_str (pa_cons (pe_tupF pa_nil) (pa_cons (pe_tupF (pa_cons pe_str pa_nil)) (pa_cons (pe_tupF (pa_cons pe_str pa_nil)) pa_nil))))) (pa_cons (pe_call GP hr2 rfl L.gP L.kP bP .nil pass0 (pa_cons (pv 0) (pa_cons (pe_lst (pa_cons pe_non (pa_cons pe_str (pa_cons (pe_tupF (pa_cons (pv 2) pa_nil)) (pa_cons (pe_lst (pa_cons (pv 2) pa_nil)) (pa_cons (pe_tupF (pa_cons pe_str (pa_cons (pe_tupF (pa_cons pe_str pa_nil)) pa_nil))) (pa_cons pe_int (pa_cons pe_bl pa_nil)))))))) pa_nil))) pa_nil)) (by rfl))
      (pss_cons (ps_for PassesOwn.never rfl (pi_tup (pe_tupF (pa_cons (pe_lst pa_nil) (pa_cons (pe_lst (pa_cons (pv 2) (pa_cons (pv 2) pa_nil))) (pa_cons (pe_lst (pa_cons (pv 2) (pa_cons (pv 6) pa_nil))) (pa_cons (pe_lst (pa_cons (pv 2) (pa_cons (pv 7) pa_nil))) (pa_cons (pe_lst (pa_cons (pv 7) (pa_cons (pv 2) pa_nil))) (pa_cons (pe_lst (pa_cons (pv 2) (pa_cons (pv 3) (pa_cons (pv 4) (pa_cons (pv 5) pa_nil))))) (pa_cons (pe_lst (pa_cons (pv 2) (pa_cons (pv 3) (pa_cons (pv 4) (pa_cons (pv 7) pa_nil))))) pa_nil))))))))) (pg_name (i := 8) scMaking.nd rfl (Or.inl rfl)) (pss_one (ps_if (pt_not (pt_val (pe_call GRf hr4 rfl cRf.g cRf.k bRf .nil pass0 (pa_cons (pv 8) pa_nil)))) (pss_one (ps_ret pe_bl)) pss_nil)))
      (pss_cons (ps_set (i := 9) scMaking.nd rfl (Or.inl rfl) (pe_prop (pe_makeR MS GS hr3 (by rfl) S.gC passF (pa_cons (pv 2) (pa_cons (pv 3) (pa_cons (pv 4) pa_nil)))) S.cl pp GT hr2 bT .nil pass0 rfl))
      (pss_one (ps_ret (pe_and (pe_callB call_isi (by rfl) T.isi (by decide +kernel) (pa_cons (pv 9) (pa_cons (pe_bltn (v := .ty "tuple") (by rfl) T.tuple (by decide +kernel) rfl) pa_nil))) (pe_and (pe_cmpR (op_eqG (rcG_tup mon_same eqG_same) hr1) (pv 9) (pe_tupF (pa_cons (pv 2) (pa_cons (pv 3) (pa_cons (pv 4) pa_nil)))) (nomark _)) (pe_one (pe_cmpR op_eq (pe_callB (call_reprT ag hu) (by rfl) rp (by decide +kernel) (pa_cons (pe_cval (pe_glob (v := .ref C) (by rfl) S.gC rfl)) pa_nil)) pe_str (nomark _)))))))))), ?_⟩
    have made : ∀ {H0 : Hp} {x dx : Addr}, H0 x = none → H0 dx = none → Same H0 (upd (upd H0 dx (.own x)) x (.ins CT dx [])) := fun {H0 x dx} hx hdx b o e => by
      rw [upd_ne (ne_of_none e hx), upd_ne (ne_of_none e hdx)]
      exact e
    have nT : ∀ {H' : Hp} {nm : Str}, nmS nm = true → Dt K H' (.str nm) (.str nm) 1 [] := fun hn => .str (Nat.le_trans (nm_text hn).1 (by decide)) (Nat.le_trans (nm_text hn).2 (by decide))
    have aOk : ([Str.ofString "a"] : List Str).all nmS = true := by decide +kernel
    have pOk : ([Str.ofString "p"] : List Str).all nmS = true := by decide +kernel
    obtain ⟨tabs, etabs⟩ : ∃ tabs : List Ti, tabs = [tA "x", tA "y", tA "xy", tA "yx"] := ⟨_, rfl⟩
    have tok : ∀ t ∈ tabs, nmS t.nm = true ∧ t.ss = [Str.ofString "a"] ∧ t.zs = [] ∧ t.ks = [] := by
      rw [etabs]
      intro t m
      simp only [List.mem_cons, List.not_mem_nil, or_false] at m
      rcases m with e | e | e | e <;> subst e <;> exact ⟨by decide +kernel, rfl, rfl, rfl⟩
    -- the four tables
    refine ⟨by show 4 ≤ sizeLine; omega, fun p1 o1 hp1 ho1 => ?_⟩
    have s1 := same_upd (o := .frz o1 (.tup [V.str "x", .str "y", .str "xy", .str "yx"])) hp1
    have q1 : upd H p1 (.frz o1 (.tup [V.str "x", .str "y", .str "xy", .str "yx"])) p1 = some (.frz o1 (.tup (tabs.map fun t => V.str t.nm))) := by
      rw [etabs]
      exact upd_same
    generalize upd H p1 (.frz o1 (.tup [V.str "x", .str "y", .str "xy", .str "yx"])) = H1 at s1 q1 ⊢
    refine ⟨p1, rfl, ⟨_, .inl (.inr ⟨o1, q1⟩)⟩, fun D hD => ?_⟩
    refine lc_tup (K := K) (a := p1) (xs := tabs.map fun t => V.str t.nm) (fun j H' => Same H1 H' ∧ ∃ ws, H' D = some (.lst ws) ∧ TbsAt K H' CT ws (tabs.take j) ∧ ws.length = j) ⟨same_upd hD, [], upd_same, .nil, rfl⟩ (fun j H' _ z => .inl (.inr ⟨o1, z.1 _ _ q1⟩)) ?_ ?_
    · rintro j y H2 hj ⟨s2, ws, eW, tb2, lw⟩
      rw [List.getElem?_map] at hj
      obtain ⟨t, et, rfl⟩ := Option.map_eq_some_iff.mp hj
      obtain ⟨n1, ess, ezs, eks⟩ := tok t (List.mem_of_getElem? et)
      have jl : j < 4 := by
        have := (List.getElem?_eq_some_iff.mp et).1
        rw [etabs] at this
        exact this
      refine ⟨rfl, ?_⟩
      dsimp only [tYes]
      rw [if_pos rfl]
      refine ⟨_, rfl, by show 1 ≤ sizeLine; omega, fun p2 o2 hp2 ho2 x dx hx hdx ne => ?_⟩
      have E2 : TupE K (upd H2 p2 (.frz o2 (.tup [V.str (Str.ofString "a")]))) p2 (([Str.ofString "a"] : List Str).map V.str) := .inr ⟨o2, upd_same, ho2⟩
      have s3 := same_upd (o := .frz o2 (.tup [V.str (Str.ofString "a")])) hp2
      generalize upd H2 p2 (.frz o2 (.tup [V.str (Str.ofString "a")])) = H3 at E2 s3 hx hdx ⊢
      obtain ⟨c1, d1, _⟩ := E2.dp (P := fun _ => True) (n := 0) aOk fun _ _ _ => trivial
      have m1 := made hx hdx
      refine ⟨x, dx, .str t.nm, .ref p2, .ref e1, .ref e2, _, _, _, _, 1, 1, 1, 1, [], c1, [], [], rfl, upd_same, nT n1, d1.same m1, .emp t1, .emp t2, fun _ H4 k4 i4 => ⟨rfl, ?_⟩, fun z => absurd ((valid_a n1).symm.trans z) (by decide)⟩
      have s4 : Same H3 H4 := fun b o q => k4 b o (ne_of_none q hx) (m1 b o q)
      have t4 : TbAt K H4 CT (.ref x) t := ⟨x, rfl, by
        rw [ess, ezs, eks]
        exact ⟨⟨dx, p2, e1, e2, i4, E2.same s4, .inl ⟨rfl, t1⟩, .inl ⟨rfl, t2⟩⟩, by decide, by decide, by decide⟩⟩
      have s24 := s3.trans s4
      have sD : Same H4 (upd H4 D (.lst (ws ++ [.ref x]))) → True := fun _ => trivial
      have keepT : ∀ {v : V} {t : Ti}, TbAt K H4 CT v t → TbAt K (upd H4 D (.lst (ws ++ [.ref x]))) CT v t := fun {v t} h => h.nl fun b o n e => by
        rw [upd_ne fun q => by
          rw [q, s24 _ _ eW] at e
          exact n _ (Option.some.inj e).symm]
        exact e
      refine ⟨ws, s24 _ _ eW, by omega, fun c u e => ?_, ws ++ [.ref x], upd_same, ?_, by rw [List.length_append, lw]; rfl⟩
      · rw [upd_ne (ne_of_none e hD)]
        exact s24 _ _ (s2 c u e)
      · rw [take_snoc et]
        exact each_append ((tbs_same tb2 s24).mono fun _ _ z => keepT z) (.cons (keepT t4) .nil)
    rintro H2 ⟨s2, ws, eW, tb2, lw⟩
    have l4 : (tabs.map fun t => V.str t.nm).length = tabs.length := List.length_map ..
    rw [l4, List.take_length] at tb2
    rw [l4, etabs] at lw
    subst etabs
    obtain ⟨w1, w2, w3, w4, rfl⟩ := four_of (xs := ws) lw
    have s02 := s1.trans s2
    refine ⟨D, _, rfl, SqL.of eW, rfl, _, _, rfl, _, _, rfl, _, _, rfl, _, _, rfl, rfl, ?_⟩
    have T4 : ∀ {H' : Hp}, NL H2 H' → TbAt K H' CT w1 (tA "x") ∧ TbAt K H' CT w2 (tA "y") ∧ TbAt K H' CT w3 (tA "xy") ∧ TbAt K H' CT w4 (tA "yx") := fun {H'} nl => by
      cases tb2 with
      | cons a1 r =>
        cases r with
        | cons a2 r =>
          cases r with
          | cons a3 r =>
            cases r with
            | cons a4 r => exact ⟨a1.nl nl, a2.nl nl, a3.nl nl, a4.nl nl⟩
    -- the other table
    refine ⟨Nat.zero_le _, fun p3 o3 hp3 ho3 => ⟨by show 1 ≤ sizeLine; omega, fun p4 o4 hp4 ho4 => ⟨by show 1 ≤ sizeLine; omega, fun p5 o5 hp5 ho5 y dy hy hdy ney => ?_⟩⟩⟩
    have s3 := same_upd (o := .frz o3 (.tup [])) hp3
    have s4 := same_upd (o := .frz o4 (.tup [V.str (Str.ofString "p")])) hp4
    have s5 := same_upd (o := .frz o5 (.tup [V.str (Str.ofString "p")])) hp5
    have s25 := (s3.trans s4).trans s5
    have E3 : TupE K (upd (upd (upd H2 p3 (.frz o3 (.tup []))) p4 (.frz o4 (.tup [V.str (Str.ofString "p")]))) p5 (.frz o5 (.tup [V.str (Str.ofString "p")]))) p3 (([] : List Str).map V.str) := .inr ⟨o3, s5 _ _ (s4 _ _ upd_same), ho3⟩
    have E4 : TupE K (upd (upd (upd H2 p3 (.frz o3 (.tup []))) p4 (.frz o4 (.tup [V.str (Str.ofString "p")]))) p5 (.frz o5 (.tup [V.str (Str.ofString "p")]))) p4 (([Str.ofString "p"] : List Str).map V.str) := .inr ⟨o4, s5 _ _ upd_same, ho4⟩
    have E5 : TupE K (upd (upd (upd H2 p3 (.frz o3 (.tup []))) p4 (.frz o4 (.tup [V.str (Str.ofString "p")]))) p5 (.frz o5 (.tup [V.str (Str.ofString "p")]))) p5 (([Str.ofString "p"] : List Str).map V.str) := .inr ⟨o5, upd_same, ho5⟩
    generalize upd (upd (upd H2 p3 (.frz o3 (.tup []))) p4 (.frz o4 (.tup [V.str (Str.ofString "p")]))) p5 (.frz o5 (.tup [V.str (Str.ofString "p")])) = H5 at s25 E3 E4 E5 hy hdy ⊢
    obtain ⟨c3, d3, _⟩ := E3.dp (P := fun _ => True) (n := 0) rfl fun _ _ _ => trivial
    obtain ⟨c4, d4, _⟩ := E4.dp (P := fun _ => True) (n := 0) pOk fun _ _ _ => trivial
    obtain ⟨c5, d5, _⟩ := E5.dp (P := fun _ => True) (n := 0) pOk fun _ _ _ => trivial
    have m5 := made hy hdy
    have xOk : nmS (Str.ofString "x") = true := by decide +kernel
    refine ⟨y, dy, .str (Str.ofString "x"), .ref p3, .ref p4, .ref p5, _, _, _, _, 1, 1, 1, 1, [], c3, c4, c5, rfl, upd_same, nT xOk, d3.same m5, d4.same m5, d5.same m5, fun _ H6 k6 i6 => ⟨rfl, ?_⟩, fun z => absurd ((valid_o xOk).symm.trans z) (by decide)⟩
    have s6 : Same H5 H6 := fun b o q => k6 b o (ne_of_none q hy) (m5 b o q)
    have to6 : TbAt K H6 CT (.ref y) tO := ⟨y, rfl, ⟨dy, p3, p4, p5, i6, E3.same s6, E4.same s6, E5.same s6⟩, by decide, by decide, by decide⟩
    have s26 := s25.trans s6
    have s06 := s02.trans s26
    -- the odd value
    refine ⟨_, rfl, _, rfl, by show 1 ≤ sizeLine; omega, fun q1 oq1 hq1 hoq1 => ?_⟩
    have u1 := same_upd (o := .frz oq1 (.tup [w1])) hq1
    have f1 : upd H6 q1 (.frz oq1 (.tup [w1])) q1 = some (.frz oq1 (.tup [w1])) := upd_same
    generalize upd H6 q1 (.frz oq1 (.tup [w1])) = G1 at u1 f1 ⊢
    refine ⟨_, rfl, by show 1 ≤ sizeLine; omega, fun q2 hq2 => ?_⟩
    have u2 := same_upd (o := .lst [w1]) hq2
    have f2 : upd G1 q2 (.lst [w1]) q2 = some (.lst [w1]) := upd_same
    generalize upd G1 q2 (.lst [w1]) = G2 at u2 f2 ⊢
    refine ⟨by show 1 ≤ sizeLine; omega, fun q3 oq3 hq3 hoq3 => ?_⟩
    have u3 := same_upd (o := .frz oq3 (.tup [V.str (Str.ofString "a")])) hq3
    generalize upd G2 q3 (.frz oq3 (.tup [V.str (Str.ofString "a")])) = G3 at u3 ⊢
    refine ⟨by show 2 ≤ sizeLine; omega, fun q4 oq4 hq4 hoq4 => ?_⟩
    have u4 := same_upd (o := .frz oq4 (.tup [V.str (Str.ofString "x"), .ref q3])) hq4
    have f4 : upd G3 q4 (.frz oq4 (.tup [V.str (Str.ofString "x"), .ref q3])) q4 = some (.frz oq4 (.tup [V.str (Str.ofString "x"), .ref q3])) := upd_same
    generalize upd G3 q4 (.frz oq4 (.tup [V.str (Str.ofString "x"), .ref q3])) = G4 at u4 f4 ⊢
    refine ⟨by show 7 ≤ sizeLine; omega, fun q5 hq5 => ?_⟩
    have u5 := same_upd (o := .lst [V.non, .str (Str.ofString "x"), .ref q1, .ref q2, .ref q4, .int 0, .bl true]) hq5
    have f5 : upd G4 q5 (.lst [V.non, .str (Str.ofString "x"), .ref q1, .ref q2, .ref q4, .int 0, .bl true]) q5 = some (.lst [V.non, .str (Str.ofString "x"), .ref q1, .ref q2, .ref q4, .int 0, .bl true]) := upd_same
    generalize upd G4 q5 (.lst [V.non, .str (Str.ofString "x"), .ref q1, .ref q2, .ref q4, .int 0, .bl true]) = G5 at u5 f5 ⊢
    have u04 := ((s06.trans u1).trans u2).trans (u3.trans u4)
    have u05 := u04.trans u5
    have hs5 := hs.but u05
    have off5 : Off a l q5 := (hs.but u04).free hq5
    have off2 : Off a l q2 := (hs.but (s06.trans u1)).free hq2
    refine ⟨a, l, .ref q5, ms, z, b, rfl, hs5, b0, by omega, .inl ⟨q5, _, rfl, fun H' kk => SqL.of (kk _ _ off5.1 off5.2 f5), by show 0 < 7; decide, by show 7 ≤ 1000; decide, fun G6 ms6 v k6 hs6 hv => ⟨_, _, rfl, ?_⟩⟩⟩
    have fz6 := k6.fz hs5
    have nl6 : NL H2 G6 := (NL.of_same (((s26.trans u1).trans u2).trans ((u3.trans u4).trans u5))).trans (k6.nl hs5)
    obtain ⟨tb1, tb2', tb3, tb4⟩ := T4 nl6
    have tbo : TbAt K G6 CT (.ref y) tO := (to6.nl (.of_same ((u1.trans u2).trans ((u3.trans u4).trans u5)))).nl (k6.nl hs5)
    have f2' : G6 q2 = some (.lst [w1]) := k6 _ _ off2.1 off2.2 (u5 _ _ (u4 _ _ (u3 _ _ f2)))
    have f1' := fz6 _ _ _ (u5 _ _ (u4 _ _ (u3 _ _ (u2 _ _ f1))))
    have f4' := fz6 _ _ _ (u5 _ _ f4)
    have nt : NotTb K G6 v := by
      simp only [List.mem_cons, List.not_mem_nil, or_false] at hv
      rcases hv with e | e | e | e | e | e | e <;> subst e
      · exact ⟨.non, fun _ _ => .base .non⟩
      · exact ⟨.str "x", fun _ _ => .base (.str _)⟩
      · exact ⟨.tup [], fun _ ss => .fTuple (ss _ _ f1')⟩
      · exact ⟨.lst [], fun _ ss => .base (.lst (ss _ _ f2'))⟩
      · exact ⟨.tup [], fun _ ss => .fTuple (ss _ _ f4')⟩
      · exact ⟨.int 0, fun _ _ => .base (.int _)⟩
      · exact ⟨.bl true, fun _ _ => .base (.bl _)⟩
    have kb6 : But a l H G6 := (But.of_same u05).trans k6
    -- the lists
    refine ⟨by show 0 ≤ sizeLine; omega, fun d0 hd0 => ?_⟩
    have x0 := same_upd (o := .lst []) hd0
    have g0 : upd G6 d0 (.lst []) d0 = some (.lst []) := upd_same
    generalize upd G6 d0 (.lst []) = L0 at x0 g0 ⊢
    refine ⟨_, rfl, _, rfl, by show 2 ≤ sizeLine; omega, fun d1 hd1 => ?_⟩
    have x1 := same_upd (o := .lst [w1, w1]) hd1
    have g1 : upd L0 d1 (.lst [w1, w1]) d1 = some (.lst [w1, w1]) := upd_same
    generalize upd L0 d1 (.lst [w1, w1]) = L1 at x1 g1 ⊢
    refine ⟨_, rfl, _, rfl, by show 2 ≤ sizeLine; omega, fun d2 hd2 => ?_⟩
    have x2 := same_upd (o := .lst [w1, V.ref y]) hd2
    have g2 : upd L1 d2 (.lst [w1, V.ref y]) d2 = some (.lst [w1, V.ref y]) := upd_same
    generalize upd L1 d2 (.lst [w1, V.ref y]) = L2 at x2 g2 ⊢
    refine ⟨_, rfl, _, rfl, by show 2 ≤ sizeLine; omega, fun d3 hd3 => ?_⟩
    have x3 := same_upd (o := .lst [w1, v]) hd3
    have g3 : upd L2 d3 (.lst [w1, v]) d3 = some (.lst [w1, v]) := upd_same
    generalize upd L2 d3 (.lst [w1, v]) = L3 at x3 g3 ⊢
    refine ⟨_, rfl, _, rfl, by show 2 ≤ sizeLine; omega, fun d4 hd4 => ?_⟩
    have x4 := same_upd (o := .lst [v, w1]) hd4
    have g4 : upd L3 d4 (.lst [v, w1]) d4 = some (.lst [v, w1]) := upd_same
    generalize upd L3 d4 (.lst [v, w1]) = L4 at x4 g4 ⊢
    refine ⟨_, rfl, _, rfl, _, rfl, _, rfl, by show 4 ≤ sizeLine; omega, fun d5 hd5 => ?_⟩
    have x5 := same_upd (o := .lst [w1, w2, w3, w4]) hd5
    have g5 : upd L4 d5 (.lst [w1, w2, w3, w4]) d5 = some (.lst [w1, w2, w3, w4]) := upd_same
    generalize upd L4 d5 (.lst [w1, w2, w3, w4]) = L5 at x5 g5 ⊢
    refine ⟨_, rfl, _, rfl, _, rfl, _, rfl, by show 4 ≤ sizeLine; omega, fun d6 hd6 => ?_⟩
    have x6 := same_upd (o := .lst [w1, w2, w3, v]) hd6
    have g6 : upd L5 d6 (.lst [w1, w2, w3, v]) d6 = some (.lst [w1, w2, w3, v]) := upd_same
    generalize upd L5 d6 (.lst [w1, w2, w3, v]) = L6 at x6 g6 ⊢
    refine ⟨by show 7 ≤ sizeLine; omega, fun tq oq htq hoq => ?_⟩
    have x7 := same_upd (o := .frz oq (.tup [V.ref d0, .ref d1, .ref d2, .ref d3, .ref d4, .ref d5, .ref d6])) htq
    have g7 : upd L6 tq (.frz oq (.tup [V.ref d0, .ref d1, .ref d2, .ref d3, .ref d4, .ref d5, .ref d6])) tq = some (.frz oq (.tup [V.ref d0, .ref d1, .ref d2, .ref d3, .ref d4, .ref d5, .ref d6])) := upd_same
    generalize upd L6 tq (.frz oq (.tup [V.ref d0, .ref d1, .ref d2, .ref d3, .ref d4, .ref d5, .ref d6])) = L7 at x7 g7 ⊢
    have y6 : Same L6 L7 := x7
    have y5 := x6.trans y6
    have y4 := x5.trans y5
    have y3 := x4.trans y4
    have y2 := x3.trans y3
    have y1 := x2.trans y2
    have y0 := x1.trans y1
    have y9 := x0.trans y0
    have each : ∀ y' ∈ [V.ref d0, .ref d1, .ref d2, .ref d3, .ref d4, .ref d5, .ref d6], ∃ (d : Addr) (ys : List V) (its : List (Option Ti)), y' = .ref d ∧ L7 d = some (.lst ys) ∧ ItsAt K G6 CT ys its ∧ (ys.length = 0 ∨ ys.length = 2 ∨ ys.length = 4) ∧ ¬ ∃ ts, GoodIts its ts := by
      intro y' m
      simp only [List.mem_cons, List.not_mem_nil, or_false] at m
      rcases m with e | e | e | e | e | e | e <;> subst e
      · exact ⟨d0, _, [], rfl, y0 _ _ g0, .nil, .inl rfl, bad_some (ts0 := []) (by decide +kernel)⟩
      · exact ⟨d1, _, [some (tA "x"), some (tA "x")], rfl, y1 _ _ g1, (.cons tb1 (.cons tb1 .nil)), .inr (.inl rfl), bad_some (ts0 := [(tA "x"), (tA "x")]) (by decide +kernel)⟩
      · exact ⟨d2, _, [some (tA "x"), some tO], rfl, y2 _ _ g2, (.cons tb1 (.cons tbo .nil)), .inr (.inl rfl), bad_some (ts0 := [(tA "x"), tO]) (by decide +kernel)⟩
      · exact ⟨d3, _, [some (tA "x"), none], rfl, y3 _ _ g3, (.cons tb1 (.cons nt .nil)), .inr (.inl rfl), bad_none (by simp)⟩
      · exact ⟨d4, _, [none, some (tA "x")], rfl, y4 _ _ g4, (.cons nt (.cons tb1 .nil)), .inr (.inl rfl), bad_none (by simp)⟩
      · exact ⟨d5, _, [some (tA "x"), some (tA "y"), some (tA "xy"), some (tA "yx")], rfl, y5 _ _ g5, (.cons tb1 (.cons tb2' (.cons tb3 (.cons tb4 .nil)))), .inr (.inr rfl), bad_some (ts0 := [(tA "x"), (tA "y"), (tA "xy"), (tA "yx")]) (by decide +kernel)⟩
      · exact ⟨d6, _, [some (tA "x"), some (tA "y"), some (tA "xy"), none], rfl, y6 _ _ g6, (.cons tb1 (.cons tb2' (.cons tb3 (.cons nt .nil)))), .inr (.inr rfl), bad_none (by simp)⟩
    refine ⟨tq, rfl, ⟨_, .inl (.inr ⟨oq, g7⟩)⟩, for_tup (K := K) (a := tq) (xs := [V.ref d0, .ref d1, .ref d2, .ref d3, .ref d4, .ref d5, .ref d6]) (fun i σ H' => ∃ v8 : Option V, σ = [some (.ref a), some wv, some w1, some w2, some w3, some w4, some (.ref y), some v, v8, none, none] ∧ Same L7 H') ⟨_, rfl, Same.refl _⟩ (fun i σ H' _ ⟨_, _, s'⟩ => .inl (.inr ⟨oq, s' _ _ g7⟩)) ?_ ?_⟩
    · rintro i y' σ H7 hi ⟨v8, rfl, s7⟩
      obtain ⟨d, ys, its, rfl, ed, hits, ln, bad⟩ := each y' (List.mem_of_getElem? hi)
      refine ⟨_, rfl, d, ys, its, rfl, s7 _ _ ed, its_same (its_same hits y9) s7, ln, bad, fun H8 s8 => ⟨_, rfl, ?_⟩⟩
      exact iteF ⟨_, rfl, s7.trans s8⟩
    rintro σ H7 ⟨v8, rfl, s7⟩
    have g67 : Same G6 H7 := y9.trans s7
    have its3 : ItsAt K H7 CT [w1, w2, w3] (([tA "x", tA "y", tA "xy"] : List Ti).map some) := its_same (.cons tb1 (.cons tb2' (.cons tb3 .nil))) g67
    have good : GoodIts (([tA "x", tA "y", tA "xy"] : List Ti).map some) [tA "x", tA "y", tA "xy"] := ⟨rfl, by decide, by decide, by decide +kernel⟩
    refine ⟨_, rfl, _, rfl, _, rfl, fun x dx hx hdx ne => ⟨[.ref x], [w1, w2, w3], rfl, rfl, by show 3 ≤ sizeLine; omega, fun p hp => ?_⟩⟩
    have px : x ≠ p := fun e => by
      rw [← e, upd_same] at hp
      cases hp
    have sx : Same H7 (upd (upd (upd H7 dx (.own x)) x (.ins C dx [])) p (.tup [w1, w2, w3])) := fun b u e => by
      have e2 : upd (upd H7 dx (.own x)) x (.ins C dx []) b = some u := by
        rw [upd_ne (ne_of_none e hx), upd_ne (ne_of_none e hdx)]
        exact e
      rw [upd_ne (ne_of_none e2 hp)]
      exact e2
    refine ⟨x, dx, p, _, _, rfl, by rw [upd_ne px, upd_same], SqT.of upd_same, its_same its3 sx, by show 3 ≤ 10; decide, fun ts g H8 rd qs kb nrd sa => ⟨rfl, ?_⟩, fun bad => absurd ⟨_, good⟩ bad⟩
    have ets : ts = [tA "x", tA "y", tA "xy"] := (map_some g.1).symm
    subst ets
    have s8 : Same H7 H8 := fun b u e => kb _ _ (ne_of_none e hx) (sx _ _ e)
    refine ⟨x, dx, _, rfl, sa.hs, x, dx, p, rd, _, _, qs, _, rfl, sa, ?_⟩
    refine ⟨_, rfl, .ref p, .ty "tuple", .type "tuple", .type "tuple", true, rfl, .ty _, SqT.ty sa.ht, kit_tup (.tup []), _, rfl, ?_⟩
    refine iteT ⟨_, rfl, _, rfl, _, rfl, _, rfl, by show 3 ≤ sizeLine; omega, fun q o hq ho => ?_⟩
    have s9 := same_upd (o := .frz o (.tup [w1, w2, w3])) hq
    have sa9 := sa.same s9
    refine ⟨⟨p, q, _, _, rfl, rfl, sa9.ht, .inl (.inr ⟨o, upd_same⟩), prs_same (tbs_refs sa.tb)⟩, fun H10 ext => ⟨_, rfl, ?_⟩⟩
    have t3 : (Tr.int 3).text = "3" := by decide +kernel
    refine iteT ⟨C, mc, .int 3, uM, rfl, cr, cv, .int 3, .int 3, 0, [], rfl, .int (by decide +kernel), by decide, by rw [t3]; decide +kernel, rfl, ?_⟩
    have ed : decide (V.str (Tr.int 3).text = V.str (Str.ofString "3")) = true := decide_eq_true (congrArg V.str t3)
    rw [ed]
    have fin : Same G6 H10 := ((g67.trans s8).trans s9).trans ext
    exact k H10 ms6 (kb6.trans (But.of_same fin)) (hs6.but fin)
end
end Vm
/-! rows with one number -/
namespace Vm
open PySem PySem.Spec PyProof.Rows L2
abbrev rowI (x : Int) : Row := [Cell.i x]
abbrev tP (ks : List Str) : Ti := ⟨Str.ofString "t", [], [Str.ofString "p"], ks⟩
def rowsI (a s : Int) (n : Nat) : List Row := (List.range n).map fun (k : Nat) => rowI (a + s * ((0 : Int) + ((k : Nat) : Int)))
theorem leR_i {x y : Int} (h : x ≤ y) : leR (rowI x) (rowI y) = true := by
  have e : ∀ z : Int, rowK (rowI z) = [.inl 1, .inl z, .inl 0] := fun z => rfl
  show (!(listOrd itemOrd).blt (rowK (rowI y)) (rowK (rowI x))) = true
  rw [e, e]
  by_cases q : x = y
  · subst q
    rw [(listOrd itemOrd).irrefl]
    rfl
  · have n1 : ¬ y < x := by omega
    have n2 : ¬ y = x := fun z => q z.symm
    show (!PyProof.Rows.lexLt itemOrd [.inl 1, .inl y, .inl 0] [.inl 1, .inl x, .inl 0]) = true
    simp [PyProof.Rows.lexLt, itemLt, n1, n2]
theorem rowsI_pw {a s : Int} {n : Nat} (h : 1 ≤ s) : (rowsI a s n).Pairwise (fun r q => leR r q = true ∧ r ≠ q) := by
  unfold rowsI
  rw [List.pairwise_map]
  refine List.pairwise_lt_range.imp fun {i j} lt => ?_
  have l2 : s * ((0 : Int) + (i : Int)) < s * ((0 : Int) + (j : Int)) := Int.mul_lt_mul_of_pos_left (by omega) (by omega)
  refine ⟨leR_i (by omega), fun e => ?_⟩
  have := Cell.i.inj (List.cons.inj e).1
  omega
theorem rowsI_nd {a s : Int} {n : Nat} (h : 1 ≤ s) : (rowsI a s n).Nodup := (rowsI_pw h).imp fun z => z.2
theorem sort_sub {a s : Int} {n : Nat} {l : List Row} (h : 1 ≤ s) (sub : l.Sublist (rowsI a s n)) : sortR l = l := List.mergeSort_of_pairwise (((rowsI_pw h).imp fun z => z.1).sublist sub)
theorem rowsI_form {a s : Int} {n : Nat} {r : Row} (h : r ∈ rowsI a s n) : ∃ k : Nat, k < n ∧ r = rowI (a + s * ((0 : Int) + (k : Int))) := by
  obtain ⟨k, hk, rfl⟩ := List.mem_map.mp h
  exact ⟨k, List.mem_range.mp hk, rfl⟩
theorem rowsI_snoc {a s : Int} {n : Nat} : rowsI a s (n + 1) = rowsI a s n ++ [rowI (a + s * ((0 : Int) + (n : Int)))] := by
  unfold rowsI
  rw [List.range_succ, List.map_append]
  rfl
def KsP (ks : List Str) : Prop := ks = [] ∨ ks = [Str.ofString "p"]
theorem clash_ne {ks : List Str} (hk : KsP ks) {x y : Int} (n : x ≠ y) : clashR (tP ks) (rowI x) (rowI y) = false := by
  rcases hk with rfl | rfl
  · rfl
  · have e : places [Str.ofString "p"] [Str.ofString "p"] 1 = [0] := by decide +kernel
    show (decide (0 < (places [Str.ofString "p"] [Str.ofString "p"] 1).length) && (places [Str.ofString "p"] [Str.ofString "p"] 1).all (sameAt [V.int x] [V.int y])) = false
    rw [e]
    show (decide (0 < 1) && (decide (V.int x = V.int y) && true)) = false
    have : ¬ V.int x = V.int y := fun z => n (V.int.inj z)
    rw [decide_eq_false this]
    rfl
theorem poss_i {ks : List Str} (hk : KsP ks) {x : Int} {rs : List Row} (h : rowI x ∉ rs) (f : ∀ r ∈ rs, ∃ y, r = rowI y) : possR (tP ks) insS [rowI x] rs = true := by
  have e1 : (!decide (rowI x ∈ rs)) = true := by
    rw [decide_eq_false h]
    rfl
  have e2 : (!rs.any (clashR (tP ks) (rowI x))) = true := by
    have : rs.any (clashR (tP ks) (rowI x)) = false := by
      rw [List.any_eq_false]
      intro r m
      obtain ⟨y, rfl⟩ := f r m
      have n : x ≠ y := fun z => h (z ▸ m)
      rw [clash_ne hk n]
      exact Bool.false_ne_true
    rw [this]
    rfl
  rw [poss_ins, e1, e2]
  rfl
theorem rk_i {ks : List Str} {x : Int} (h : x.natAbs < 10 ^ 40) : Rk (tP ks) (rowI x) := row_of (t := tP ks) (ns := []) (is := [x]) rfl rfl rfl fun i m => by
  rw [List.mem_singleton.mp m]
  exact h
theorem tP_ok {ks : List Str} (hk : KsP ks) : (tP ks).ok := by
  rcases hk with rfl | rfl
  · exact ⟨by decide +kernel, rfl, by decide +kernel, rfl, by decide, by decide, by decide, by decide, by decide, (fun _ m => nomatch m)⟩
  · exact ⟨by decide +kernel, rfl, by decide +kernel, by decide +kernel, by decide, by decide, by decide, by decide, by decide, fun k m => m⟩
theorem each_eraseIdx {α β : Type} {R : α → β → Prop} : ∀ {xs : List α} {ys : List β} (k : Nat), PySem.W.EachIs R xs ys → PySem.W.EachIs R (xs.eraseIdx k) (ys.eraseIdx k)
  | _, _, _, .nil => .nil
  | _, _, 0, .cons h t => t
  | _, _, k + 1, .cons h t => .cons h (each_eraseIdx k t)
theorem perm_erase {α : Type} : ∀ {l : List α} {k : Nat} {x : α}, l[k]? = some x → l.Perm (x :: l.eraseIdx k)
  | [], _, _, e => nomatch e
  | y :: l, 0, x, e => by
    obtain rfl := Option.some.inj e
    exact .refl _
  | y :: l, k + 1, x, e => ((perm_erase (l := l) (k := k) e).cons y).trans (.swap _ _ _)
theorem seq_nat {n j : Nat} (h : j < n) : seqIndex? (j : Int) n = some j := by
  unfold seqIndex?
  simp
  omega
end Vm
/-! the law: twelve rows in a table -/
namespace Vm
open PySem PySem.Spec PyProof.Rows L2 StX
abbrev sFull : Stmt := top 65
/-- a store with one table of one number column -/
structure FullSt (K : PySem.W.Frag) (H0 H : Hp) (C CT a l st dx tp rd RL LL : Addr) (wv : List V) (ks : List Str) (qs : List Addr) (ms : List Int) (z b b0 : Int) (R : List Row) (vR xs : List V) (ls ins : List Row) : Prop where
  kb : But a l H0 H
  hs : Src H a l ms z b
  b1 : b0 ≤ b
  b2 : b ≤ b0 + 3 + (ins.length : Int)
  eR : H RL = some (.lst vR)
  rR : RowsAt H vR R
  eL : H LL = some (.lst xs)
  rL : RowsAt H xs ls
  sa : StAt K H C CT st dx tp rd wv [tP ks] qs ([ins].map sortR)
  pm : (ins ++ ls).Perm R
  one : 1 ≤ ls.length
def spFull : Sp := fun vs H Q _ => ∃ (s l : Addr) (ms : List Int) (z b : Int), vs = [.ref s] ∧ Src H s l ms z b ∧ 0 ≤ b ∧ b < 900000 ∧ ∀ H' ms' b', But s l H H' → Src H' s l ms' z b' → b ≤ b' → b' ≤ b + 30 → Q (.bl true) H'
theorem full_facts {a s : Int} {ks : List Str} (h1 : 1 ≤ s) (h9 : s ≤ 9) (h2 : -1000 ≤ a) (h3 : a ≤ 1000) {ins ls : List Row} (pm : (ins ++ ls).Perm (rowsI a s 13)) (one : 1 ≤ ls.length) :
    WInv [tP ks] [ins] ∧ (∀ r ∈ ins ++ ls, Rk (tP ks) r ∧ ∃ y, r = rowI y) ∧ (ins ++ ls).Nodup ∧ ins.length + ls.length = 13 := by
  have nd := pm.nodup_iff.mpr (rowsI_nd h1)
  have ln : ins.length + ls.length = 13 := by
    have := pm.length_eq
    rw [List.length_append] at this
    rw [this]
    unfold rowsI
    rw [List.length_map, List.length_range]
  have each : ∀ r ∈ ins ++ ls, Rk (tP ks) r ∧ ∃ y, r = rowI y := fun r m => by
    obtain ⟨k, hk, rfl⟩ := rowsI_form (pm.mem_iff.mp m)
    have u1 : s * ((0 : Int) + (k : Int)) ≤ 9 * 13 := Int.mul_le_mul h9 (by omega) (by omega) (by decide)
    have u2 : 0 ≤ s * ((0 : Int) + (k : Int)) := Int.mul_nonneg (by omega) (by omega)
    exact ⟨rk_i (by omega), _, rfl⟩
  refine ⟨⟨fun i ti rs e1 e2 => ?_, fun rs m => ?_, ?_⟩, each, nd, ln⟩
  · have i0 : i = 0 := by
      have := (List.getElem?_eq_some_iff.mp e1).1
      simpa using this
    subst i0
    obtain rfl := Option.some.inj e1
    obtain rfl := Option.some.inj e2
    exact ⟨fun r m => (each r (List.mem_append_left _ m)).1, by omega⟩
  · rw [List.mem_singleton.mp m]
    exact (List.nodup_append.mp nd).1
  · show ins.length + 0 ≤ 12
    omega
/-- an insert of a row that is left -/
theorem ins_facts {H : Hp} {ks : List Str} (hk : KsP ks) {p : Addr} {o : Obj} {y : V} {r : Row} {ins : List Row} (wi : WInv [tP ks] [ins]) (rk : Rk (tP ks) r) (f : ∀ q ∈ ins, ∃ y, q = rowI y) (fr : ∃ y, r = rowI y) (nm : r ∉ ins)
    (hp : H p = some (.frz o (.tup [.str insS, .str (Str.ofString "t"), y]))) (ho : o.dict = none) (hy : RwAt H y r) :
    ChgAt H [tP ks] (.ref p) (.tup (deedL insS (Str.ofString "t") [r])) ∧ isChg [tP ks] (.tup (deedL insS (Str.ofString "t") [r])) = true ∧ posT [tP ks] ([ins].map sortR) (.tup (deedL insS (Str.ofString "t") [r])) = true ∧
    boolsT [tP ks] ([ins].map sortR) [.tup (deedL insS (Str.ofString "t") [r])] = [true] ∧ (ins.length < 12 → stepsT [tP ks] ([ins].map sortR) [.tup (deedL insS (Str.ofString "t") [r])] = [ins ++ [r]].map sortR) := by
  have hl : lenV insS = .int ((([r] : List Row).length + 2 : Nat) : Int) := by
    show lenV insS = .int 3
    decide +kernel
  have rks : ∀ q ∈ [r], Rk (tP ks) q := fun q m => by
    rw [List.mem_singleton.mp m]
    exact rk
  obtain ⟨x, rfl⟩ := fr
  have ps := poss_i hk nm f
  have nd1 : ([tP ks].map Ti.nm).Nodup := by simp
  obtain ⟨c1, c2⟩ := deed_chg (ts := [tP ks]) (rss := [ins]) (i := 0) (kd := insS) nd1 rfl rfl (fun q m => (rks q m).ok) hl
  have po : posT [tP ks] ([ins].map sortR) (.tup (deedL insS (Str.ofString "t") [rowI x])) = true := by
    rw [pos_sort]
    exact c2.trans ps
  refine ⟨⟨p, insS, 0, tP ks, [rowI x], rfl, ⟨o, [y], hp, ho, .cons hy .nil⟩, rfl, rks, hl, rfl⟩, c1, po, ?_, fun c => ?_⟩
  · show [posT [tP ks] ([ins].map sortR) (.tup (deedL insS (Str.ofString "t") [rowI x]))] = [true]
    rw [po]
  · obtain ⟨st, _⟩ := both_stepW (ts := [tP ks]) (rss := [ins]) (i := 0) wi nd1 rfl rfl rks hl (fun _ => c) c2
    have e : followR insS [rowI x] ins = ins ++ [rowI x] := by
      unfold followR
      rw [if_pos rfl]
    rw [ps, if_pos rfl, e] at st
    exact st
section
variable {P : Program} {w : World} {K : PySem.W.Frag} {mg : Str → Option Value} {base : Heap} {fNm fNms fCols fKey C CT CI CZ CU CIC fI fD fP fTO fRO fIC fIP fSI fDo fL : Addr}
theorem scFull : FnScope ["_law_source_here", "_law_first", "_law_step", "_law_store_here", "_law_rows", "_law_left", "_law_k"] ["_law_source_here"] (defScope sFull) := ⟨rfl, rfl, rfl, by decide +kernel, rfl, by decide +kernel, by decide +kernel⟩
theorem ok_full {f : Addr} {fd fdD fdP fdI fdR fdIP fdL : FuncData} (F : Fun K "_law_full_right" "_law_full_right" sFull f fd) (T : TxtP K mg fNm fNms) (L : TxtL K mg fD fP) (U : TxtT K mg CT CI fCols fKey) (S : TxtS K mg C fTO fRO fIC fIP) (rp : mg "repr" = none) (M : Mk K CT fI) (mDo : Meth K C "do" fDo)
    (GD : FnOk P w K mg base CX0 1 fD fdD ["_law_source_here", "_law_many"] spDraw) (bD : Binds K fdD ["_law_source_here", "_law_many"] [])
    (GP : FnOk P w K mg base CX0 2 fP fdP ["_law_source_here", "_law_items"] (spPick K)) (bP : Binds K fdP ["_law_source_here", "_law_items"] [])
    (GI : FnOk P w K mg base (L2.CX P w) 4 fI fdI ["self", "name", "names", "numbers", "key"] (spInit K CT CI)) (bI : Binds K fdI ["self", "name", "names", "numbers", "key"] [])
    (MS : Mk K C fSI) (GS : FnR P w K mg base (L2.CX P w) 2 fSI (spSInitR K C CT CZ))
    (GRO : FnOk P w K mg base (L2.CX P w) 4 fRO fdR ["self", "name"] (spRowsOf K C CT CU)) (bRO : Binds K fdR ["self", "name"] [])
    (GIP : FnOk P w K mg base (L2.CX P w) 6 fIP fdIP ["self", "change"] (spIsPossible K C CT CIC)) (bIP : Binds K fdIP ["self", "change"] [])
    (GDo : FnR P w K mg base (L2.CX P w) 7 fDo (spDoR K C CT CIC))
    (aL : PySem.W.findIn K (.ref C) "__len__" = some (some (.ref fL))) (tL : PySem.W.typeIn K (.ref fL) = some (.type "function")) (GL : FnOk P w K mg base CX0 1 fL fdL ["self"] (spSLen K C CT)) (bL : Binds K fdL ["self"] []) :
    FnG P w K mg base CX0 8 f fd ["_law_source_here"] spFull := by
  refine okG0 F scFull (fun vs H Q E h => ?_) (fun cdv A outer s H vs Q E ag hr h => ?_)
  · obtain ⟨s, l, ms, z, b, rfl, _⟩ := h
    rfl
  · obtain ⟨a, l, ms, z, b, rfl, hs, b0, b1, k⟩ := h
    have hr1 : Room 1 _ := hr.mono (by decide)
    have hr2 : Room 2 _ := hr.mono (by decide)
    have hr3 : Room 3 _ := hr.mono (by decide)
    have hr4 : Room 4 _ := hr.mono (by decide)
    have hr5 : Room 5 _ := hr.mono (by decide)
    have hr6 : Room 6 _ := hr.mono (by decide)
    have hu : (A.deeper (PyProof.Rows.envOfC "_law_full_right" (defScope sFull) s.heap.objs.size f cdv)).units + 16 < cLine := by
      have := hr.units
      omega
    have hu8 : (A.deeper (PyProof.Rows.envOfC "_law_full_right" (defScope sFull) s.heap.objs.size f cdv)).units + 8 < cLine := by omega
    have big : sizeLine > 100000 := by decide
    refine ⟨_, pss_cons (ps_asg (pe_tup (pa_cons (pe_op op_sub (pe_call GD hr1 rfl L.gD L.kD bD .nil pass0 (pa_cons (pv 0) (pa_cons pe_int pa_nil))) pe_int) (pa_cons (pe_op op_add pe_int (pe_call GD hr1 rfl L.gD L.kD bD .nil pass0 (pa_cons (pv 0) (pa_cons pe_int pa_nil)))) pa_nil)))
          (pg_tup rfl (pgs_cons (pg_name (i := 1) scFull.nd rfl (Or.inr rfl)) (pgs_cons (pg_name (i := 2) scFull.nd rfl (Or.inr rfl)) pgs_nil))))
      (pss_cons (ps_set (i := 3) scFull.nd rfl (Or.inl rfl) (pe_makeR MS GS hr3 (by rfl) S.gC passF (pa_cons (pe_make M GI hr5 rfl U.gC bI .nil passF (pa_cons pe_str (pa_cons (pe_tupF pa_nil) (pa_cons (pe_tupF (pa_cons pe_str pa_nil))
          (pa_cons (pe_call GP hr2 rfl L.gP L.kP bP .nil pass0 (pa_cons (pv 0) (pa_cons (pe_lst (pa_cons (pe_tupF pa_nil) (pa_cons (pe_tupF (pa_cons pe_str pa_nil)) pa_nil))) pa_nil))) pa_nil))))) pa_nil)))
      (pss_cons (ps_setLc (i := 4) (own := [("_law_k", 6)]) (g := gName 6) (tt := tYes) (te := tTupF (tCons (tOp (rI0 fun i j => .int (i + j)) (tVar 1) (tOp (rI CMul fun i j => .int (i * j)) (tVar 2) (tVar 6))) tNil)) rfl scFull.nd rfl rfl (sw_true rfl rfl rfl (by decide +kernel)) (pi_range1 rfl L.range (pa_cons pe_int pa_nil))
          (blkOk_by (N := ["_law_source_here", "_law_first", "_law_step", "_law_store_here", "_law_rows", "_law_left", "_law_k"]) (sc := defScope sFull) (by decide +kernel)) (fun _ _ _ _ _ => pg_name (i := 6) scFull.nd rfl (Or.inl rfl))
          (fun _ _ _ _ _ => pts_nil) (fun _ _ _ _ _ => by exact (pe_tupF (pa_cons (pe_op op_add (pv 1) (pe_op op_mul (pv 2) (pv 6))) pa_nil))))
      (pss_cons (ps_set (i := 5) scFull.nd rfl (Or.inl rfl) (pe_callTy call_listOf (by rfl) L.list (by decide +kernel) (pa_cons (pv 4) pa_nil)))
      (pss_cons (ps_while PassesOwn.never (pt_cmpR op_gt (pe_callB call_len_seq (by rfl) T.len (by decide +kernel) (pa_cons (pv 5) pa_nil)) pe_int (nomark _))
        (pss_one (ps_if (pt_cmpR (op_neP hu8) (Vm.pe_methR (E := fun _ _ _ => False) (pv 3) S.cl mDo GDo hr passF (pa_cons (pe_tupF (pa_cons pe_str (pa_cons pe_str
              (pa_cons (pe_bm PySem.F.plainAttrs_list PySem.F.slot_list_pop PySem.F.type_list_pop mt_popAt (pv 5) (pa_cons (pe_call GD hr1 rfl L.gD L.kD bD .nil pass0 (pa_cons (pv 0) (pa_cons (pe_callB call_len_seq (by rfl) T.len (by decide +kernel) (pa_cons (pv 5) pa_nil)) pa_nil))) pa_nil)) pa_nil)))) pa_nil))
            (pe_tupF (pa_cons pe_bl pa_nil)) (nomark _)) (pss_one (ps_ret pe_bl)) pss_nil)))
      (pss_cons (ps_expr (pe_bm PySem.F.plainAttrs_list PySem.F.slot_list_remove PySem.F.type_list_remove (mt_removeR hu8) (pv 4) (pa_cons (pe_ix ix_list (pv 5) pe_int (fun _ _ => rfl)) pa_nil)))
      (pss_cons (ps_if (PW.pt (pw_or (pt_cmpR (op_neP hu8) (pe_meth (E := fun _ _ _ => False) (pv 3) S.cl S.mRO GRO hr4 bRO .nil passF (pa_cons pe_str pa_nil)) (pe_callTy call_tupleF (by rfl) T.tuple (by decide +kernel) (pa_cons (pv 4) pa_nil)) (nomark _))
            (pw_or1 (pt_cmpR op_ne (pe_callB (call_reprT ag hu) (by rfl) rp (by decide +kernel) (pa_cons (pe_callB (call_lenOwn aL tL (GL.byPlace bL) hr2 pass0) (by rfl) T.len (by decide +kernel) (pa_cons (pv 3) pa_nil)) pa_nil)) pe_str (nomark _))))) (pss_one (ps_ret pe_bl)) pss_nil)
      (pss_one (ps_ret (pe_and (pe_cmpR op_isBl (pe_meth (E := fun _ _ _ => False) (pv 3) S.cl S.mIP GIP hr6 bIP .nil passF (pa_cons (pe_tupF (pa_cons pe_str (pa_cons pe_str (pa_cons (pe_ix ix_list (pv 5) pe_int (fun _ _ => rfl)) pa_nil)))) pa_nil)) pe_bl (nomark _))
        (pe_one (pe_cmpR (op_eqP hu8) (Vm.pe_methR (E := fun _ _ _ => False) (pv 3) S.cl mDo GDo hr passF (pa_cons (pe_tupF (pa_cons pe_str (pa_cons pe_str (pa_cons (pe_ix ix_list (pv 5) pe_int (fun _ _ => rfl)) pa_nil)))) pa_nil)) (pe_tupF (pa_cons pe_bl pa_nil)) (nomark _)))))))))))), ?_⟩
    -- first and step
    refine ⟨_, rfl, a, l, ms, z, b, 1000, rfl, hs, by decide, by decide, b0, by omega, fun H1 ms1 r1 k1 hs1 r10 r11 => ⟨_, _, rfl, rfl, _, rfl, a, l, ms1, z, b + 1, 9, rfl, hs1, by decide, by decide, by omega, by omega, fun H2 ms2 r2 k2 hs2 r20 r21 => ⟨_, _, rfl, rfl, by show 2 ≤ sizeLine; omega, fun p0 hp0 => ?_⟩⟩⟩
    show gTup _ _ _ _ _ (upd H2 p0 (.tup [V.int (r1 - 500), .int (1 + r2)])) _
    generalize eFi : r1 - 500 = Fi
    generalize eSt : 1 + r2 = St
    have s3 := same_upd (o := .tup [V.int Fi, .int St]) hp0
    have q3 : upd H2 p0 (.tup [V.int Fi, .int St]) p0 = some (.tup [V.int Fi, .int St]) := upd_same
    generalize upd H2 p0 (.tup [V.int Fi, .int St]) = H3 at s3 q3 ⊢
    refine ⟨p0, _, rfl, SqT.of q3, rfl, _, _, rfl, _, _, rfl, rfl, ?_⟩
    have k03 := (k1.trans k2).trans (But.of_same (s := a) (l := l) s3)
    have hs3 := hs2.but s3
    -- the store
    refine ⟨Nat.zero_le _, fun p1 o1 hp1 ho1 => ⟨by show 1 ≤ sizeLine; omega, fun p2 o2 hp2 ho2 => ?_⟩⟩
    have u1 := same_upd (o := .frz o1 (.tup [])) hp1
    have u2 := same_upd (o := .frz o2 (.tup [V.str (Str.ofString "p")])) hp2
    have u12 := u1.trans u2
    have E1 : TupE K (upd (upd H3 p1 (.frz o1 (.tup []))) p2 (.frz o2 (.tup [V.str (Str.ofString "p")]))) p1 (([] : List Str).map V.str) := .inr ⟨o1, u2 _ _ upd_same, ho1⟩
    have E2 : TupE K (upd (upd H3 p1 (.frz o1 (.tup []))) p2 (.frz o2 (.tup [V.str (Str.ofString "p")]))) p2 (([Str.ofString "p"] : List Str).map V.str) := .inr ⟨o2, upd_same, ho2⟩
    generalize upd (upd H3 p1 (.frz o1 (.tup []))) p2 (.frz o2 (.tup [V.str (Str.ofString "p")])) = H4 at u12 E1 E2 ⊢
    refine ⟨_, rfl, Nat.zero_le _, fun p3 o3 hp3 ho3 => ⟨by show 1 ≤ sizeLine; omega, fun p4 o4 hp4 ho4 => ⟨by show 2 ≤ sizeLine; omega, fun q5 hq5 => ?_⟩⟩⟩
    have u3 := same_upd (o := .frz o3 (.tup [])) hp3
    have u4 := same_upd (o := .frz o4 (.tup [V.str (Str.ofString "p")])) hp4
    have u5 := same_upd (o := .lst [V.ref p3, .ref p4]) hq5
    have u35 := (u3.trans u4).trans u5
    have E3 : TupE K (upd (upd (upd H4 p3 (.frz o3 (.tup []))) p4 (.frz o4 (.tup [V.str (Str.ofString "p")]))) q5 (.lst [V.ref p3, .ref p4])) p3 (([] : List Str).map V.str) := .inr ⟨o3, u5 _ _ (u4 _ _ upd_same), ho3⟩
    have E4 : TupE K (upd (upd (upd H4 p3 (.frz o3 (.tup []))) p4 (.frz o4 (.tup [V.str (Str.ofString "p")]))) q5 (.lst [V.ref p3, .ref p4])) p4 (([Str.ofString "p"] : List Str).map V.str) := .inr ⟨o4, u5 _ _ upd_same, ho4⟩
    have q5' : upd (upd (upd H4 p3 (.frz o3 (.tup []))) p4 (.frz o4 (.tup [V.str (Str.ofString "p")]))) q5 (.lst [V.ref p3, .ref p4]) q5 = some (.lst [V.ref p3, .ref p4]) := upd_same
    have off5 : Off a l q5 := ((hs3.but u12).but (u3.trans u4)).free hq5
    generalize upd (upd (upd H4 p3 (.frz o3 (.tup []))) p4 (.frz o4 (.tup [V.str (Str.ofString "p")]))) q5 (.lst [V.ref p3, .ref p4]) = H5 at u35 E3 E4 q5' ⊢
    have s35 := u12.trans u35
    have hs5 := hs3.but s35
    refine ⟨a, l, .ref q5, ms2, z, b + 1 + 1, rfl, hs5, by omega, by omega, .inl ⟨q5, _, rfl, fun H' kk => SqL.of (kk _ _ off5.1 off5.2 q5'), by show 0 < 2; decide, by show 2 ≤ 1000; decide, fun H6 ms6 v k6 hs6 hv y dy hy hdy ney => ?_⟩⟩
    have fz6 := k6.fz hs5
    have fzE : ∀ {c : Addr} {ss : List Str}, TupE K H5 c (ss.map V.str) → TupE K H6 c (ss.map V.str) := fun h => h.imp id fun ⟨o, e, d⟩ => ⟨o, fz6 _ _ _ e, d⟩
    obtain ⟨ks, pk, rfl, hk, Ek⟩ : ∃ (ks : List Str) (pk : Addr), v = .ref pk ∧ KsP ks ∧ TupE K H6 pk (ks.map V.str) := by
      simp only [List.mem_cons, List.not_mem_nil, or_false] at hv
      rcases hv with e | e
      · exact ⟨[], p3, e, .inl rfl, fzE E3⟩
      · exact ⟨[Str.ofString "p"], p4, e, .inr rfl, fzE E4⟩
    have E1' := fzE (E1.same u35)
    have E2' := fzE (E2.same u35)
    have made : ∀ {H0 : Hp} {CC : Addr} {x dx : Addr}, H0 x = none → H0 dx = none → Same H0 (upd (upd H0 dx (.own x)) x (.ins CC dx [])) := fun {H0 CC x dx} hx hdx b o e => by
      rw [upd_ne (ne_of_none e hx), upd_ne (ne_of_none e hdx)]
      exact e
    have tOk : nmS (Str.ofString "t") = true := by decide +kernel
    have pOk : ([Str.ofString "p"] : List Str).all nmS = true := by decide +kernel
    have kOk : ks.all nmS = true := by
      rcases hk with rfl | rfl
      · rfl
      · exact pOk
    have nT : ∀ {H' : Hp}, Dt K H' (.str (Str.ofString "t")) (.str (Str.ofString "t")) 1 [] := .str (Nat.le_trans (nm_text tOk).1 (by decide)) (Nat.le_trans (nm_text tOk).2 (by decide))
    have val : valid (.str (Str.ofString "t")) (.tup (([] : List Str).map Tr.str)) (.tup ([Str.ofString "p"].map Tr.str)) (.tup (ks.map Tr.str)) = true := by
      rcases hk with rfl | rfl <;> decide +kernel
    obtain ⟨c1, d1, _⟩ := E1'.dp (P := fun _ => True) (n := 0) rfl fun _ _ _ => trivial
    obtain ⟨c2, d2, _⟩ := E2'.dp (P := fun _ => True) (n := 0) pOk fun _ _ _ => trivial
    obtain ⟨c4, d4, _⟩ := Ek.dp (P := fun _ => True) (n := 0) kOk fun _ _ _ => trivial
    have m6 := made (CC := CT) hy hdy
    refine ⟨y, dy, .str (Str.ofString "t"), .ref p1, .ref p2, .ref pk, _, _, _, _, 1, 1, 1, 1, [], c1, c2, c4, rfl, upd_same, nT, d1.same m6, d2.same m6, d4.same m6, fun _ H7 k7 i7 => ⟨rfl, ?_⟩, fun zz => absurd (val.symm.trans zz) (by decide)⟩
    have s67 : Same H6 H7 := fun b o q => k7 b o (ne_of_none q hy) (m6 b o q)
    have l4k : ks.length ≤ 4 := by rcases hk with rfl | rfl <;> decide
    have tb7 : TbAt K H7 CT (.ref y) (tP ks) := ⟨y, rfl, ⟨dy, p1, p2, pk, i7, E1'.same s67, E2'.same s67, Ek.same s67⟩, by show 0 ≤ 2; decide, by show 1 ≤ 2; decide, l4k⟩
    intro x dx hx hdx ne
    refine ⟨[.ref x], [.ref y], rfl, rfl, by show 1 ≤ sizeLine; omega, fun p hp => ?_⟩
    have px : x ≠ p := fun e => by
      rw [← e, upd_same] at hp
      cases hp
    have sx : Same H7 (upd (upd (upd H7 dx (.own x)) x (.ins C dx [])) p (.tup [V.ref y])) := fun b u e => by
      have e2 := made (CC := C) hx hdx _ _ e
      rw [upd_ne (ne_of_none e2 hp)]
      exact e2
    have good : GoodIts (([tP ks] : List Ti).map some) [tP ks] := ⟨rfl, by show 1 ≤ 1; decide, by show 1 ≤ 3; decide, by simp⟩
    have its1 : ItsAt K H7 CT [.ref y] (([tP ks] : List Ti).map some) := .cons tb7 .nil
    refine ⟨x, dx, p, _, _, rfl, by rw [upd_ne px, upd_same], SqT.of upd_same, its_same its1 sx, by show 1 ≤ 10; decide, fun ts g H8 rd qs kb nrd sa => ⟨rfl, ?_⟩, fun bad => absurd ⟨_, good⟩ bad⟩
    obtain rfl : [tP ks] = ts := map_some g.1
    have s78 : Same H7 H8 := fun b u e => kb _ _ (ne_of_none e hx) (sx _ _ e)
    have k06 : But a l H H6 := (k03.trans (But.of_same s35)).trans k6
    have k08 : But a l H H8 := k06.trans (But.of_same (s67.trans s78))
    have hs8 : Src H8 a l ms6 z (b + 1 + 1 + 1) := hs6.but (s67.trans s78)
    have nrd7 : H7 rd = none := sx.free nrd
    have nrd0 : H rd = none := k06.back hs6 (s67.free nrd7)
    have sa0 : StAt K H8 C CT x dx p rd [.ref y] [tP ks] qs ([([] : List Row)].map sortR) := by
      have e : [([] : List Row)].map sortR = [tP ks].map fun _ => [] := by
        show [sortR []] = [[]]
        simp [sortR]
      rw [e]
      exact sa
    -- the rows
    refine ⟨13, rfl, by decide, by decide, fun RL hRL => ?_⟩
    have nRL0 : H RL = none := k08.back hs8 hRL
    refine lc_range (lo := 0) (n := 13) (fun j H' => Same H8 H' ∧ ∃ vR, H' RL = some (.lst vR) ∧ RowsAt H' vR (rowsI Fi St j) ∧ vR.length = j) ⟨same_upd hRL, [], upd_same, .nil, rfl⟩ ?_ ?_
    · rintro j H9 hj ⟨s9, vR, e9, r9, lv⟩
      refine ⟨rfl, ?_⟩
      dsimp only [tYes]
      rw [if_pos rfl]
      refine ⟨_, rfl, _, rfl, _, rfl, _, _, rfl, rfl, .inl ⟨by omega, by omega⟩, _, _, rfl, rfl, by show 1 ≤ sizeLine; omega, fun p9 o9 hp9 ho9 => ?_⟩
      have t9 := same_upd (o := .frz o9 (.tup [V.int (Fi + St * (0 + (j : Int)))])) hp9
      have fz9 : Fz (upd H9 p9 (.frz o9 (.tup [V.int (Fi + St * (0 + (j : Int)))]))) (upd (upd H9 p9 (.frz o9 (.tup [V.int (Fi + St * (0 + (j : Int)))]))) RL (.lst (vR ++ [.ref p9]))) := fun c o zs e => by
        rw [upd_ne fun q => by
          rw [q, t9 _ _ e9] at e
          cases e]
        exact e
      refine ⟨vR, t9 _ _ e9, by omega, fun c u e => ?_, vR ++ [.ref p9], upd_same, ?_, by rw [List.length_append, lv]; rfl⟩
      · rw [upd_ne (ne_of_none e hRL)]
        exact t9 _ _ (s9 _ _ e)
      · rw [rowsI_snoc]
        refine each_append (RowsAt.keep fz9 (RowsAt.keep (Fz.of_same t9) r9)) (.cons ⟨p9, o9, rfl, ?_, ho9⟩ .nil)
        exact fz9 _ _ _ upd_same
    rintro H9 ⟨s9, vR, e9, r9, lv⟩
    -- what is left
    refine ⟨_, rfl, RL, vR, rfl, .inl (SqL.of e9), fun LL hLL => ?_⟩
    have t10 := same_upd (o := .lst vR) hLL
    have e10 : upd H9 LL (.lst vR) LL = some (.lst vR) := upd_same
    dsimp only
    rw [gName_ap]
    have nLL0 : H LL = none := k08.back hs8 (s9.free hLL)
    have LR : LL ≠ RL := fun e => by
      rw [e, e9] at hLL
      cases hLL
    generalize upd H9 LL (.lst vR) = H10 at t10 e10 ⊢
    have s810 := s9.trans t10
    have offR : Off a l RL := hs.free nRL0
    have offL : Off a l LL := hs.free nLL0
    have offD : Off a l rd := hs.free nrd0
    have bS1 : 1 ≤ St := by omega
    have bS9 : St ≤ 9 := by omega
    have bF1 : -1000 ≤ Fi := by omega
    have bF2 : Fi ≤ 1000 := by omega
    have l13 : (rowsI Fi St 13).length = 13 := by
      unfold rowsI
      rw [List.length_map, List.length_range]
    have okt : ∀ t ∈ [tP ks], t.ok := fun t m => by
      rw [List.mem_singleton.mp m]
      exact tP_ok hk
    refine while_by (fun σ H' => ∃ (ms' : List Int) (b' : Int) (xs : List V) (ls ins : List Row) (qs' : List Addr), σ = [some (.ref a), some (.int Fi), some (.int St), some (.ref x), some (.ref RL), some (.ref LL), none] ∧ FullSt K H H' C CT a l x dx p rd RL LL [.ref y] ks qs' ms' z b' b (rowsI Fi St 13) vR xs ls ins)
      (fun _ H' => match H' LL with | some (.lst xs) => xs.length | _ => 0) ?_ ?_ ?_
    · exact ⟨ms6, b + 1 + 1 + 1, vR, rowsI Fi St 13, [], qs, rfl, ⟨k08.trans (But.of_same s810), hs8.but s810, by omega, by show _ ≤ b + 3 + ((0 : Nat) : Int); omega, t10 _ _ e9, RowsAt.keep (Fz.of_same t10) r9, e10, RowsAt.keep (Fz.of_same t10) r9, sa0.same s810, .refl _, by rw [l13]; decide⟩⟩
    · rintro σ H11 ⟨ms', b', xs, ls, ins, qs', rfl, fs⟩
      obtain ⟨wi, each, nd, ln⟩ := full_facts (ks := ks) bS1 bS9 bF1 bF2 fs.pm fs.one
      have lx : xs.length = ls.length := fs.rL.length
      have c1 := fs.b1
      have c2 := fs.b2
      refine ⟨_, rfl, LL, xs, rfl, .inl (SqL.of fs.eL), _, _, rfl, rfl, _, rfl, ?_⟩
      refine ite2 (fun e => ?_) (fun e => ?_)
      · have more : 1 < xs.length := by
          have := of_decide_eq_true e
          omega
        refine ⟨_, rfl, x, dx, _, rfl, fs.sa.hs, rfl, _, rfl, .inl ⟨rfl, _, SqL.of fs.eL⟩, _, rfl, _, rfl, LL, xs, rfl, .inl (SqL.of fs.eL), a, l, ms', z, b', _, rfl, fs.hs, by omega, by omega, by omega, by omega, fun H12 ms12 r k12 hs12 r0 r1' => ?_⟩
        obtain ⟨j, rfl⟩ : ∃ j : Nat, r = (j : Int) := ⟨r.toNat, by omega⟩
        have hj : j < xs.length := by omega
        have ej : xs[j]? = some xs[j] := List.getElem?_eq_getElem hj
        obtain ⟨rw0, er, hrw⟩ := each_get fs.rL ej
        have eL12 := k12 _ _ offL.1 offL.2 fs.eL
        have fz12 := k12.fz fs.hs
        refine ⟨LL, xs, _, j, xs[j], rfl, rfl, eL12, by omega, by omega, seq_nat hj, ej, ?_⟩
        generalize xs[j] = yj at ej hrw ⊢
        have sa12 := fs.sa.nl (k12.nl fs.hs)
        -- the list is shorter
        have e13 : upd H12 LL (.lst (xs.eraseIdx j)) LL = some (.lst (xs.eraseIdx j)) := upd_same
        have fz13 : Fz H12 (upd H12 LL (.lst (xs.eraseIdx j))) := fun c o zs q => by
          rw [upd_ne fun w => by
            rw [w, eL12] at q
            cases q]
          exact q
        have kp13 : ∀ c o, c ≠ LL → H12 c = some o → upd H12 LL (.lst (xs.eraseIdx j)) c = some o := fun c o n q => by
          rw [upd_ne n]
          exact q
        have sa13 : StAt K (upd H12 LL (.lst (xs.eraseIdx j))) C CT x dx p rd [.ref y] [tP ks] qs' ([ins].map sortR) := sa12.nl fun c o n q => by
          rw [upd_ne fun w => by
            rw [w, eL12] at q
            exact n _ (Option.some.inj q).symm]
          exact q
        have hs13 : Src (upd H12 LL (.lst (xs.eraseIdx j))) a l ms12 z (b' + 1) := hs12.put offL
        generalize upd H12 LL (.lst (xs.eraseIdx j)) = H13 at e13 fz13 kp13 sa13 hs13 ⊢
        refine ⟨by show 3 ≤ sizeLine; omega, fun pd od hpd hod => ?_⟩
        have s14 := same_upd (o := .frz od (.tup [V.str (Str.ofString "insert"), .str (Str.ofString "t"), yj])) hpd
        have e14 : upd H13 pd (.frz od (.tup [V.str (Str.ofString "insert"), .str (Str.ofString "t"), yj])) pd = some (.frz od (.tup [V.str (Str.ofString "insert"), .str (Str.ofString "t"), yj])) := upd_same
        generalize upd H13 pd (.frz od (.tup [V.str (Str.ofString "insert"), .str (Str.ofString "t"), yj])) = H14 at s14 e14 ⊢
        refine ⟨[.ref x], [.ref pd], rfl, rfl, by show 1 ≤ sizeLine; omega, fun p8 hp8 => ?_⟩
        have s15 := same_upd (o := .tup [V.ref pd]) hp8
        have e15 : upd H14 p8 (.tup [V.ref pd]) p8 = some (.tup [V.ref pd]) := upd_same
        generalize upd H14 p8 (.tup [V.ref pd]) = H15 at s15 e15 ⊢
        have s1315 := s14.trans s15
        have sa15 := sa13.same s1315
        have fz1115 : Fz H11 H15 := fun c o zs q => s1315 _ _ (fz13 _ _ _ (fz12 _ _ _ q))
        have mr : rw0 ∈ ls := List.mem_of_getElem? er
        have nm : rw0 ∉ ins := fun m => (List.nodup_append.mp nd).2.2 rw0 m rw0 mr rfl
        obtain ⟨rk, fr⟩ := each rw0 (List.mem_append_right _ mr)
        obtain ⟨ch, chg, po, bo, stp⟩ := ins_facts (H := H15) hk wi rk (fun q m => (each q (List.mem_append_left _ m)).2) fr nm (s15 _ _ e14) hod (hrw.keep fz1115)
        have stp := stp (by omega)
        obtain ⟨bs, dt, _⟩ := ch.dpF (K := K) okt
        have wd := ch.w okt
        refine ⟨12, x, dx, p, rd, p8, [.ref y], [tP ks], qs', [ins].map sortR, [.ref pd], _, rfl, sa15, SqT.of e15, .cons ⟨⟨2, bs, dt⟩, by omega⟩ .nil, by show 1 ≤ 20; decide, wi.rk.sort.fit okt, by show 12 + 1 ≤ 90; decide, fun _ H16 q16 qs16 du nq ⟨o16, e16, ho16⟩ sa16 _ => ?_, fun i0 v0 t0 g1 g2 g3 _ => ?_⟩
        · rw [bo] at e16
          rw [stp] at sa16
          refine ⟨by show 1 ≤ sizeLine; omega, fun qT oT hqT hoT => ?_⟩
          have s17 := same_upd (o := .frz oT (.tup [V.bl true])) hqT
          have e17 : upd H16 qT (.frz oT (.tup [V.bl true])) qT = some (.frz oT (.tup [V.bl true])) := upd_same
          generalize upd H16 qT (.frz oT (.tup [V.bl true])) = H17 at s17 e17 ⊢
          refine ⟨.tuple [.bool true], .tuple [.bool true], .tup (.inl (.inr ⟨o16, s17 _ _ e16⟩)) (.cons (.bl true) .nil), .tup (.inl (.inr ⟨oT, e17⟩)) (.cons (.bl true) .nil), rfl, rfl, by decide, _, rfl, ?_⟩
          have ev : (!PyData.eqv (.tuple [.bool true]) (.tuple [.bool true])) = false := by decide +kernel
          show if (!PyData.eqv (.tuple [.bool true]) (.tuple [.bool true])) = true then _ else _
          rw [ev]
          have nrd : ∀ {c : Addr} {ys : List V}, H15 c = some (.lst ys) → c ≠ rd := fun {c ys} e q => by
            rw [q, sa15.hd] at e
            cases e
          have l17 : ∀ {c : Addr} {ys : List V}, H13 c = some (.lst ys) → H17 c = some (.lst ys) := fun e => s17 _ _ (du _ _ (nrd (s1315 _ _ e)) (s1315 _ _ e))
          have fz17 : Fz H11 H17 := fun c o zs q => s17 _ _ (du.fz sa15.hd _ _ _ (fz1115 _ _ _ q))
          have eL17 := l17 e13
          have lenE : (xs.eraseIdx j).length = xs.length - 1 := List.length_eraseIdx_of_lt hj
          have lenS : (ls.eraseIdx j).length = ls.length - 1 := List.length_eraseIdx_of_lt (by omega)
          refine iteF ⟨⟨ms12, b' + 1, xs.eraseIdx j, ls.eraseIdx j, ins ++ [rw0], qs16, rfl, ⟨fun c o n1 n2 q => ?_, ⟨l17 hs13.hs, l17 hs13.hl, hs13.len⟩, by omega, ?_, l17 (kp13 _ _ LR.symm (k12 _ _ offR.1 offR.2 fs.eR)), RowsAt.keep fz17 fs.rR, eL17, RowsAt.keep fz17 (each_eraseIdx j fs.rL), sa16.same s17, ?_, by omega⟩⟩, ?_⟩
          · exact s17 _ _ (du _ _ (ne_of_none q nrd0) (s1315 _ _ (kp13 _ _ (ne_of_none q nLL0) (k12 _ _ n1 n2 (fs.kb _ _ n1 n2 q)))))
          · rw [List.length_append]
            show b' + 1 ≤ b + 3 + ((ins.length + 1 : Nat) : Int)
            omega
          · rw [List.append_assoc]
            exact ((perm_erase er).symm.append_left ins).trans fs.pm
          · show (match H17 LL with | some (.lst xs) => xs.length | _ => 0) < (match H11 LL with | some (.lst xs) => xs.length | _ => 0)
            rw [eL17, fs.eL]
            show (xs.eraseIdx j).length < xs.length
            omega
        · cases i0 with
          | zero =>
            obtain rfl := Option.some.inj g2
            rw [chg] at g3
            cases g3
          | succ i0 => cases g2
      · have le1 : xs.length ≤ 1 := by
          have := of_decide_eq_false (Bool.eq_false_iff.mpr e)
          omega
        have one := fs.one
        obtain ⟨r0, rfl⟩ : ∃ r0, ls = [r0] := List.length_eq_one_iff.mp (by omega)
        obtain ⟨y0, rfl⟩ : ∃ y0, xs = [y0] := List.length_eq_one_iff.mp (by rw [lx]; rfl)
        have hy0 : RwAt H11 y0 r0 := by
          cases fs.rL with
          | cons h _ => exact h
        have memR : r0 ∈ rowsI Fi St 13 := fs.pm.mem_iff.mp (List.mem_append_right _ List.mem_cons_self)
        have li : ins.length = 12 := by
          have : ([r0] : List Row).length = 1 := rfl
          omega
        have nm : r0 ∉ ins := fun m => (List.nodup_append.mp nd).2.2 r0 m r0 List.mem_cons_self rfl
        obtain ⟨rk, fr⟩ := each r0 (List.mem_append_right _ List.mem_cons_self)
        have pe : ins.Perm ((rowsI Fi St 13).erase r0) := by
          have h1 := (List.perm_cons_erase memR).symm.trans fs.pm.symm
          have h2 : (ins ++ [r0]).Perm (r0 :: ins) := List.perm_append_singleton _ _
          exact ((List.perm_cons r0).mp (h1.trans h2)).symm
        have es : sortR ins = (rowsI Fi St 13).erase r0 := (sortR_eq pe).trans (sort_sub bS1 List.erase_sublist)
        -- the rows without the one
        refine ⟨_, rfl, .inl ⟨rfl, _, SqL.of fs.eR⟩, _, rfl, LL, _, 0, y0, rfl, rfl, SqL.of fs.eL, rfl, RL, y0, r0, vR, rowsI Fi St 13, rfl, rfl, fs.eR, hy0, fs.rR, memR, fun vs' hvs' lv' => ?_⟩
        have e12 : upd H11 RL (.lst vs') RL = some (.lst vs') := upd_same
        have kp12 : ∀ c o, c ≠ RL → H11 c = some o → upd H11 RL (.lst vs') c = some o := fun c o n q => by
          rw [upd_ne n]
          exact q
        have sa12 : StAt K (upd H11 RL (.lst vs')) C CT x dx p rd [.ref y] [tP ks] qs' ([ins].map sortR) := fs.sa.nl fun c o n q => by
          rw [upd_ne fun w => by
            rw [w, fs.eR] at q
            exact n _ (Option.some.inj q).symm]
          exact q
        have fz12 : Fz H11 (upd H11 RL (.lst vs')) := fun c o zs q => by
          rw [upd_ne fun w => by
            rw [w, fs.eR] at q
            cases q]
          exact q
        have hs12 : Src (upd H11 RL (.lst vs')) a l ms' z b' := fs.hs.put offR
        have eL12 := kp12 _ _ LR fs.eL
        have r12 := RowsAt.keep fz12 hvs'
        have hy12 := hy0.keep fz12
        dsimp only
        generalize upd H11 RL (.lst vs') = H12 at e12 kp12 sa12 fz12 hs12 eL12 r12 hy12 ⊢
        have wis := wi.sort
        have lvR : vR.length = 13 := by
          rw [fs.rR.length]
          exact l13
        have fi : firstAt [tP ks] (.str (Str.ofString "t")) = some 0 := first_nm (ts := [tP ks]) (i := 0) (ti := tP ks) (by simp) rfl
        refine ⟨_, rfl, x, dx, _, rfl, sa12.hs, rfl, x, dx, p, rd, [.ref y], [tP ks], qs', [ins].map sortR, .str (Str.ofString "t"), .str (Str.ofString "t"), 1, [], rfl, sa12, nT, fun i q H13 hi hq s13 => ?_, fun zz => ?_⟩
        · rw [fi] at hi
          obtain rfl := Option.some.inj hi
          have sa13 := sa12.same s13
          obtain ⟨srs, esr, rt⟩ := each_get sa13.rw hq
          obtain rfl : sortR ins = srs := Option.some.inj esr
          obtain ⟨oq, xq, hq', hdq, hrq⟩ := rt
          refine ⟨_, rfl, RL, vs', rfl, SqL.of (s13 _ _ e12), fun p14 o14 hp14 ho14 => ?_⟩
          have s14 := same_upd (o := .frz o14 (.tup vs')) hp14
          have e14 : upd H13 p14 (.frz o14 (.tup vs')) p14 = some (.frz o14 (.tup vs')) := upd_same
          generalize upd H13 p14 (.frz o14 (.tup vs')) = H14 at s14 e14 ⊢
          have s1214 := s13.trans s14
          have dpt : (PyData.tuple ((sortR ins).map rowD)).depth ≤ 6 := by
            have h2 := rows_depth (sortR ins)
            simp only [PyData.depth]
            omega
          refine ⟨.tuple ((sortR ins).map rowD), .tuple (((rowsI Fi St 13).erase r0).map rowD), .tup (.inl (.inr ⟨oq, s14 _ _ hq'⟩)) (rows_dp (RowsAt.keep (Fz.of_same s14) hrq)), .tup (.inl (.inr ⟨o14, e14⟩)) (rows_dp (RowsAt.keep (Fz.of_same s1214) r12)), rows_plain _, rows_plain _, dpt, _, rfl, ?_⟩
          have ev : (!PyData.eqv (.tuple ((sortR ins).map rowD)) (.tuple (((rowsI Fi St 13).erase r0).map rowD))) = false := by
            have e1 : PyData.eqv (.tuple ((sortR ins).map rowD)) (.tuple (((rowsI Fi St 13).erase r0).map rowD)) = PyData.eqvAll ((sortR ins).map rowD) (((rowsI Fi St 13).erase r0).map rowD) := rfl
            rw [e1, rows_eqv, decide_eq_true es]
            rfl
          show if (!PyData.eqv (.tuple ((sortR ins).map rowD)) (.tuple (((rowsI Fi St 13).erase r0).map rowD))) = true then _ else _
          rw [ev]
          have sa14 := sa12.same s1214
          have cnt : countOf ([ins].map sortR) = 12 := by
            show (sortR ins).length + 0 = 12
            rw [(sortR_perm ins).length_eq, li]
          refine iteF ⟨_, rfl, x, dx, _, rfl, sa14.hs, x, dx, p, rd, [.ref y], [tP ks], qs', [ins].map sortR, rfl, sa14, fun rs m => ?_, fun H15 s15 => ⟨12, by rw [cnt], by omega, ?_⟩⟩
          · obtain ⟨i, e⟩ := List.mem_iff_getElem?.mp m
            exact Nat.le_trans (Nat.le_trans (count_le e) wis.cnt) (by decide)
          have t12 : (Tr.int ((12 : Nat) : Int)).text = "12" := by decide +kernel
          refine ⟨.int ((12 : Nat) : Int), .int ((12 : Nat) : Int), 0, [], rfl, .int (by decide +kernel), by decide, by rw [t12]; decide +kernel, rfl, _, rfl, ?_⟩
          have ed : (!decide (V.str (Tr.int ((12 : Nat) : Int)).text = V.str (Str.ofString "12"))) = false := by
            rw [decide_eq_true (congrArg V.str t12)]
            rfl
          rw [ed]
          have sa15 := sa14.same s15
          have s1215 := s1214.trans s15
          have hs15 := hs12.but s1215
          have eL15 := s1215 _ _ eL12
          have hy15 := hy12.keep (Fz.of_same s1215)
          -- it is possible
          refine iteF ⟨_, rfl, x, dx, _, rfl, sa15.hs, rfl, _, rfl, LL, _, 0, y0, rfl, rfl, SqL.of eL15, rfl, by show 3 ≤ sizeLine; omega, fun pd od hpd hod => ?_⟩
          have s16 := same_upd (o := .frz od (.tup [V.str (Str.ofString "insert"), .str (Str.ofString "t"), y0])) hpd
          have e16 : upd H15 pd (.frz od (.tup [V.str (Str.ofString "insert"), .str (Str.ofString "t"), y0])) pd = some (.frz od (.tup [V.str (Str.ofString "insert"), .str (Str.ofString "t"), y0])) := upd_same
          generalize upd H15 pd (.frz od (.tup [V.str (Str.ofString "insert"), .str (Str.ofString "t"), y0])) = H16 at s16 e16 ⊢
          have hy16 := hy15.keep (Fz.of_same s16)
          have insf : ∀ q ∈ ins, ∃ y, q = rowI y := fun q m => (each q (List.mem_append_left _ m)).2
          obtain ⟨ch, chg, po, _, _⟩ := ins_facts (H := H16) hk wi rk insf fr nm e16 hod hy16
          obtain ⟨bs, dt, _⟩ := ch.dpF (K := K) okt
          have wd := ch.w okt
          refine ⟨12, x, dx, p, rd, [.ref y], [tP ks], qs', [ins].map sortR, .ref pd, _, 2, bs, rfl, sa15.same s16, dt, by omega, wi.rk.sort.fit okt, by decide, fun _ H17 s17 => ?_, fun zz => absurd chg (by rw [zz]; exact Bool.false_ne_true)⟩
          refine ⟨_, _, rfl, rfl, _, rfl, ?_⟩
          rw [po, decide_eq_true rfl]
          have s1517 := s16.trans s17
          have sa17 := sa15.same s1517
          have eL17 := s1517 _ _ eL15
          have hy17 := hy15.keep (Fz.of_same s1517)
          -- it is done
          refine iteT ⟨_, rfl, x, dx, _, rfl, sa17.hs, rfl, _, rfl, LL, _, 0, y0, rfl, rfl, SqL.of eL17, rfl, by show 3 ≤ sizeLine; omega, fun pe2 oe2 hpe2 hoe2 => ?_⟩
          have s18 := same_upd (o := .frz oe2 (.tup [V.str (Str.ofString "insert"), .str (Str.ofString "t"), y0])) hpe2
          have e18 : upd H17 pe2 (.frz oe2 (.tup [V.str (Str.ofString "insert"), .str (Str.ofString "t"), y0])) pe2 = some (.frz oe2 (.tup [V.str (Str.ofString "insert"), .str (Str.ofString "t"), y0])) := upd_same
          generalize upd H17 pe2 (.frz oe2 (.tup [V.str (Str.ofString "insert"), .str (Str.ofString "t"), y0])) = H18 at s18 e18 ⊢
          refine ⟨[.ref x], [.ref pe2], rfl, rfl, by show 1 ≤ sizeLine; omega, fun p8 hp8 => ?_⟩
          have s19 := same_upd (o := .tup [V.ref pe2]) hp8
          have e19 : upd H18 p8 (.tup [V.ref pe2]) p8 = some (.tup [V.ref pe2]) := upd_same
          generalize upd H18 p8 (.tup [V.ref pe2]) = H19 at s19 e19 ⊢
          have s1719 := s18.trans s19
          have sa19 := sa17.same s1719
          obtain ⟨ch2, chg2, po2, bo2, _⟩ := ins_facts (H := H19) hk wi rk insf fr nm (s19 _ _ e18) hoe2 (hy17.keep (Fz.of_same s1719))
          obtain ⟨bs2, dt2, _⟩ := ch2.dpF (K := K) okt
          refine ⟨12, x, dx, p, rd, p8, [.ref y], [tP ks], qs', [ins].map sortR, [.ref pe2], _, rfl, sa19, SqT.of e19, .cons ⟨⟨2, bs2, dt2⟩, by omega⟩ .nil, by show 1 ≤ 20; decide, wi.rk.sort.fit okt, by show 12 + 1 ≤ 90; decide, fun _ H20 q20 qs20 du nq ⟨o20, e20, ho20⟩ sa20 _ => ?_, fun i0 v0 t0 g1 g2 g3 _ => ?_⟩
          · rw [bo2] at e20
            refine ⟨by show 1 ≤ sizeLine; omega, fun qT oT hqT hoT => ?_⟩
            have s21 := same_upd (o := .frz oT (.tup [V.bl true])) hqT
            have e21 : upd H20 qT (.frz oT (.tup [V.bl true])) qT = some (.frz oT (.tup [V.bl true])) := upd_same
            generalize upd H20 qT (.frz oT (.tup [V.bl true])) = H21 at s21 e21 ⊢
            refine ⟨.tuple [.bool true], .tuple [.bool true], .tup (.inl (.inr ⟨o20, s21 _ _ e20⟩)) (.cons (.bl true) .nil), .tup (.inl (.inr ⟨oT, e21⟩)) (.cons (.bl true) .nil), rfl, rfl, by decide, ?_⟩
            have ev2 : PyData.eqv (.tuple [.bool true]) (.tuple [.bool true]) = true := by decide +kernel
            show Q (.bl (PyData.eqv (.tuple [.bool true]) (.tuple [.bool true]))) _
            rw [ev2]
            have nrd : ∀ {c : Addr} {ys : List V}, H19 c = some (.lst ys) → c ≠ rd := fun {c ys} e q => by
              rw [q, sa19.hd] at e
              cases e
            have s1219 := (s1215.trans s1517).trans s1719
            have l21 : ∀ {c : Addr} {ys : List V}, H12 c = some (.lst ys) → H21 c = some (.lst ys) := fun e => s21 _ _ (du _ _ (nrd (s1219 _ _ e)) (s1219 _ _ e))
            refine k H21 ms' b' (fun c o n1 n2 q => ?_) ⟨l21 hs12.hs, l21 hs12.hl, hs12.len⟩ c1 (by omega)
            exact s21 _ _ (du _ _ (ne_of_none q nrd0) (s1219 _ _ (kp12 _ _ (ne_of_none q nRL0) (fs.kb _ _ n1 n2 q))))
          · cases i0 with
            | zero =>
              obtain rfl := Option.some.inj g2
              rw [chg2] at g3
              cases g3
            | succ i0 => cases g2
        · rw [fi] at zz
          cases zz
    · intro σ' H' Q1 Q2 m h
      obtain ⟨v, hv, pp, ys, e, hp', i, j, e1, e2, kk, e3, q⟩ := h
      exact ⟨v, hv, pp, ys, e, hp', i, j, e1, e2, kk, e3, m _ _ q⟩
end
end Vm
/-! the law -/
namespace Vm
open PySem PySem.Spec PyProof.Rows L2
abbrev sLaw : Stmt := top 66
def spLaw (K : PySem.W.Frag) : Sp := fun vs H Q _ => ∃ (a : Addr) (ns : List Int), vs = [.ref a] ∧ SqL K H a (ns.map V.int) ∧ ns.length ≤ 63 ∧ ∀ H', Q (.bl true) H'
/-- two tables of the same arguments -/
def SameTb (K : PySem.W.Frag) (CT : Addr) : Addr → Addr → Hp → Prop := fun a b H => ∃ nm ss zs ks, Tb K H CT a nm ss zs ks ∧ Tb K H CT b nm ss zs ks
theorem sameTb_ext {K : PySem.W.Frag} {CT : Addr} : ∀ a b H H', Ext H H' → SameTb K CT a b H → SameTb K CT a b H' := fun a b H H' e ⟨nm, ss, zs, ks, h1, h2⟩ => ⟨nm, ss, zs, ks, h1.same e, h2.same e⟩
theorem eqTb_refl (nm : Str) (ss zs ks : List Str) : eqTb nm ss zs ks nm ss zs ks = true := by
  unfold eqTb
  rw [decide_eq_true rfl, decide_eq_true rfl, decide_eq_true rfl, decide_eq_true rfl]
  rfl
theorem eq_sp {K : PySem.W.Frag} {CT : Addr} : ∀ vs H Q E, spEq (SameTb K CT) vs H Q E → spEqT K CT vs H Q E := fun vs H Q E h => by
  obtain ⟨a, b, rfl, ⟨nm, ss, zs, ks, h1, h2⟩, k⟩ := h
  refine ⟨a, .ref b, nm, ss, zs, ks, rfl, h1, .inl ⟨b, nm, ss, zs, ks, rfl, h2, fun H' s => ?_⟩⟩
  rw [eqTb_refl]
  exact k H' s
theorem tabs_prs {K : PySem.W.Frag} {H : Hp} {CT : Addr} : ∀ {xs ys : List V} {ts : List Ti}, TbsAt K H CT xs ts → TbsAt K H CT ys ts → Prs (DIns CT (SameTb K CT)) xs ys H
  | _, _, _, .nil, .nil => Prs.nil
  | _, _, _, .cons ⟨a, e1, h1⟩ r1, .cons ⟨b, e2, h2⟩ r2 => by
    subst e1 e2
    obtain ⟨⟨dx, _, _, _, f1, _⟩, _⟩ := id h1
    obtain ⟨⟨dy, _, _, _, f2, _⟩, _⟩ := id h2
    exact Prs.cons ⟨a, b, dx, dy, _, _, rfl, rfl, f1, f2, _, _, _, _, h1, h2⟩ (tabs_prs r1 r2)
/-- all but lists and dicts -/
def ND (H H' : Hp) : Prop := ∀ b o, (∀ xs, o ≠ .lst xs) → (∀ kvs, o ≠ .dK kvs) → H b = some o → H' b = some o
theorem TbAt.nd {K : PySem.W.Frag} {H H' : Hp} {C : Addr} {v : V} {t : Ti} (h : TbAt K H C v t) (k : ND H H') : TbAt K H' C v t := by
  obtain ⟨a, e, ⟨dx, a2, a3, a4, h1, h2, h3, h4⟩, l2, l3, l4⟩ := h
  have te : ∀ {c : Addr} {xs : List V}, TupE K H c xs → TupE K H' c xs := fun h => h.imp id fun ⟨o, e, d⟩ => ⟨o, k _ _ (fun _ q => nomatch q) (fun _ q => nomatch q) e, d⟩
  exact ⟨a, e, ⟨dx, a2, a3, a4, k _ _ (fun _ q => nomatch q) (fun _ q => nomatch q) h1, te h2, te h3, te h4⟩, l2, l3, l4⟩
theorem BK.nd {a l rd w : Addr} {ps rls : List Addr} {ts : List Ti} {rss : List (List Row)} {H H' : Hp} {ms : List Int} {z b : Int} {kvs : List (Key × V)} (k : BK a l rd ps H H') (hs : Src H a l ms z b) (hd : H rd = some (.dK kvs)) (wl : Wl H w ps rls ts rss) : ND H H' := fun c o n1 n2 e => by
  refine k c o (fun q => ?_) (fun q => ?_) (fun q => ?_) (fun m => ?_) e
  · rw [q, hs.hs] at e
    exact n1 _ (Option.some.inj e).symm
  · rw [q, hs.hl] at e
    exact n1 _ (Option.some.inj e).symm
  · rw [q, hd] at e
    exact n2 _ (Option.some.inj e).symm
  · obtain ⟨xs, e'⟩ := wl.there c (List.mem_cons_of_mem _ (List.mem_append_left _ m))
    rw [e'] at e
    exact n1 _ (Option.some.inj e).symm
theorem strs_ws : ∀ {ss : List Str}, ss.all nmS = true → Vm.ws (ss.map Tr.str) ≤ 84 * ss.length
  | [], _ => Nat.zero_le _
  | s :: ss, h => by
    rw [List.all_cons, Bool.and_eq_true] at h
    have a := (nm_text h.1).1
    have b := strs_ws h.2
    show ((reprText s).length + 2) + Vm.ws (ss.map Tr.str) ≤ 84 * (ss.length + 1)
    omega
def colT (t : Ti) : Tr := .tup (t.cols.map Tr.str)
theorem colT_w {t : Ti} (g : t.ok) : (colT t).w ≤ 340 := by
  have n : t.cols.all nmS = true := by
    unfold Ti.cols
    rw [List.all_append, g.n2, g.n3]
    rfl
  have a := strs_ws n
  have l : t.cols.length ≤ 4 := by
    unfold Ti.cols
    rw [List.length_append]
    have := g.l2
    have := g.l3
    omega
  show 3 + Vm.ws (t.cols.map Tr.str) ≤ 340
  omega
theorem colsT_w : ∀ {ts : List Ti}, (∀ t ∈ ts, t.ok) → Vm.ws (ts.map colT) ≤ 342 * ts.length
  | [], _ => Nat.zero_le _
  | t :: ts, h => by
    have a := colT_w (h t List.mem_cons_self)
    have b := colsT_w fun t m => h t (List.mem_cons_of_mem _ m)
    show ((colT t).w + 2) + Vm.ws (ts.map colT) ≤ 342 * (ts.length + 1)
    omega
theorem col_snoc {K : PySem.W.Frag} {H0 H G : Hp} {D q : Addr} {ys : List V} {ts : List Ti} {j : Nat} {t : Ti} (hD : H0 D = none) (s : Same H0 H) (eD : H D = some (.lst ys)) (d : DPs K H (fun c => c ≠ D) ys ((ts.take j).map colT) 1) (ly : ys.length = j) (et : ts[j]? = some t) (g : t.ok) (few : ts.length ≤ 3)
    (sG : Same H G) (tq : TupE K G q ((t.ss ++ t.zs).map V.str)) : ∃ zs, G D = some (.lst zs) ∧ zs.length < sizeLine ∧ (Same H0 (upd G D (.lst (zs ++ [.ref q]))) ∧ ∃ ws, (upd G D (.lst (zs ++ [.ref q]))) D = some (.lst ws) ∧ DPs K (upd G D (.lst (zs ++ [.ref q]))) (fun c => c ≠ D) ws ((ts.take (j + 1)).map colT) 1 ∧ ws.length = j + 1) := by
  have big : sizeLine > 1000 := by decide
  have jl := (List.getElem?_eq_some_iff.mp et).1
  have n : (t.ss ++ t.zs).all nmS = true := by
    rw [List.all_append, g.n2, g.n3]
    rfl
  have e2 := sG _ _ eD
  have dq : DP K G (fun c => c ≠ D) (.ref q) (colT t) 1 := tq.dp (P := fun c => c ≠ D) (n := 0) n fun o u e q => by
    rw [q, e2] at e
    cases e
  refine ⟨ys, e2, by omega, fun c u e => ?_, ys ++ [.ref q], upd_same, ?_, by rw [List.length_append, ly]; rfl⟩
  · rw [upd_ne (ne_of_none e hD)]
    exact sG _ _ (s _ _ e)
  · rw [take_snoc et, List.map_append]
    exact ((d.same sG).append (.cons dq .nil)).keep fun b o hb e => by
      rw [upd_ne hb]
      exact e
theorem col_dt {K : PySem.W.Frag} {H : Hp} {D : Addr} {ys : List V} {ts : List Tr} (eD : H D = some (.lst ys)) (d : DPs K H (fun c => c ≠ D) ys ts 1) : ∃ bs, Dt K H (.ref D) (.lst ts) 2 bs := by
  obtain ⟨bs, d, hb⟩ := d
  exact ⟨_, .lst eD d fun m => hb _ m rfl⟩
/-- the things that are looked for -/
def tThings (K : PySem.W.Frag) : TE := fun σ H Q => ∃ (k : Int) (s l w : Addr) (ms : List Int) (z b : Int) (ps rls : List Addr) (ts : List Ti) (rss : List (List Row)), σ[6]? = some (some (.int k)) ∧ σ[1]? = some (some (.ref s)) ∧ σ[3]? = some (some (.ref w)) ∧ Src H s l ms z b ∧ 0 ≤ b ∧ b < 600000 ∧ Wl H w ps rls ts rss ∧ Wn ts ∧ WInv ts rss ∧ (∀ c ∈ w :: (ps ++ rls), Off s l c) ∧
  ∀ (H' : Hp) (ms' : List Int) (b' : Int) (D : Addr) (xs : List V) (us : List Tr), But s l H H' → Src H' s l ms' z b' → b ≤ b' → b' ≤ b + 10 → H' D = some (.lst xs) → H D = none → DPs K H' (fun _ => True) xs us 3 → Nots ts (rss.map sortR) us → us.length ≤ 500 → Q (.ref D) H'
section
variable {P : Program} {w : World} {K : PySem.W.Frag} {mg : Str → Option Value} {base : Heap} {fNm fNms fCols fKey C CT CI CU fTO fRO fIC fIP fS fW fSt fMT fFu fIs fMk fCR fSg fE fH pT gT pC gC : Addr}
theorem scLaw : FnScope ["_law_script", "_law_source_here", "_law_turn", "_law_world_here", "_law_store_here", "_law_tables", "_law_k", "_law_things", "_law_it", "_law_some", "_law_rows", "_law_table"] ["_law_script"] (defScope sLaw) := ⟨rfl, rfl, rfl, by decide +kernel, rfl, by decide +kernel, by decide +kernel⟩
theorem ok_law {f : Addr} {fd fdS fdW fdSt fdMT fdFu fdIs fdMk fdCR fdSg fdE fdH fdT fdC fdTO : FuncData} (F : Fun K "law" "law" sLaw f fd) (T : TxtP K mg fNm fNms) (rg : mg "range" = none) (rp : mg "repr" = none) (U : TxtT K mg CT CI fCols fKey) (S : TxtS K mg C fTO fRO fIC fIP)
    (cS : Calls K mg "_law_source" fS) (GS : FnOk P w K mg base CX0 1 fS fdS ["_law_script"] (spSource K)) (bS : Binds K fdS ["_law_script"] [])
    (cFu : Calls K mg "_law_full_right" fFu) (GFu : FnG P w K mg base CX0 8 fFu fdFu ["_law_source_here"] spFull) (bFu : Binds K fdFu ["_law_source_here"] [])
    (cW : Calls K mg "_law_world" fW) (GW : FnOk P w K mg base CX0 5 fW fdW ["_law_source_here"] spWorld) (bW : Binds K fdW ["_law_source_here"] [])
    (cSt : Calls K mg "_law_store" fSt) (GSt : FnOk P w K mg base CX0 7 fSt fdSt ["_law_world_here"] (spStoreL K C CT)) (bSt : Binds K fdSt ["_law_world_here"] [])
    (cMT : Calls K mg "_law_made_tables" fMT) (GMT : FnOk P w K mg base CX0 6 fMT fdMT ["_law_world_here"] (spMadeT K CT)) (bMT : Binds K fdMT ["_law_world_here"] [])
    (cIs : Calls K mg "_law_is_so" fIs) (GIs : FnG P w K mg base CX0 6 fIs fdIs ["_law_store_here", "_law_world_here"] (spIsSo K C CT)) (bIs : Binds K fdIs ["_law_store_here", "_law_world_here"] [])
    (cMk : Calls K mg "_law_making_right" fMk) (GMk : FnG P w K mg base CX0 6 fMk fdMk ["_law_source_here", "_law_world_here"] spMaking) (bMk : Binds K fdMk ["_law_source_here", "_law_world_here"] [])
    (cCR : Calls K mg "_law_call_right" fCR) (GCR : FnG P w K mg base CX0 9 fCR fdCR ["_law_source_here", "_law_store_here", "_law_world_here"] (spCallRight K C CT)) (bCR : Binds K fdCR ["_law_source_here", "_law_store_here", "_law_world_here"] [])
    (cSg : Calls K mg "_law_strange" fSg) (GSg : FnOk P w K mg base CX0 4 fSg fdSg ["_law_source_here", "_law_world_here"] (spStrange K)) (bSg : Binds K fdSg ["_law_source_here", "_law_world_here"] [])
    (hE : PySem.W.findIn K (.ref CT) "__eq__" = some (some (.ref fE))) (fnE : PySem.W.isFn K (.ref fE) = true) (GE : FnOk P w K mg base CX0 1 fE fdE ["self", "other"] (spEqT K CT)) (bE : Binds K fdE ["self", "other"] [])
    (aH : PySem.W.findIn K (.ref C) "__contains__" = some (some (.ref fH))) (tH : PySem.W.typeIn K (.ref fH) = some (.type "function")) (GH : FnOk P w K mg base CX0 3 fH fdH ["self", "thing"] (spSHas K C CT)) (bH : Binds K fdH ["self", "thing"] [])
    (pp : PropOf K C "tables" pT gT) (GT : FnOk P w K mg base CX0 1 gT fdT ["self"] (spSTables K C CT)) (bT : Binds K fdT ["self"] [])
    (pq : PropOf K CT "columns" pC gC) (GC : FnOk P w K mg base CX0 1 gC fdC ["self"] (spColumns K CT)) (bC : Binds K fdC ["self"] [])
    (GTO : FnOk P w K mg base (L2.CX P w) 3 fTO fdTO ["self", "name"] (spTableOf K C CT CU)) (bTO : Binds K fdTO ["self", "name"] []) :
    FnG P w K mg base CX0 10 f fd ["_law_script"] (spLaw K) := by
  refine okG0 F scLaw (fun vs H Q E h => ?_) (fun cdv A outer s H vs Q E ag hr h => ?_)
  · obtain ⟨a, ns, rfl, _⟩ := h
    rfl
  · obtain ⟨sc, ns, rfl, hS, hlen, k⟩ := h
    have hr1 : Room 1 _ := hr.mono (by decide)
    have hr2 : Room 2 _ := hr.mono (by decide)
    have hr3 : Room 3 _ := hr.mono (by decide)
    have hr4 : Room 4 _ := hr.mono (by decide)
    have hr5 : Room 5 _ := hr.mono (by decide)
    have hr6 : Room 6 _ := hr.mono (by decide)
    have hr7 : Room 7 _ := hr.mono (by decide)
    have hr8 : Room 8 _ := hr.mono (by decide)
    have hu : (A.deeper (PyProof.Rows.envOfC "law" (defScope sLaw) s.heap.objs.size f cdv)).units + 16 < cLine := by
      have := hr.units
      omega
    have hu8 : (A.deeper (PyProof.Rows.envOfC "law" (defScope sLaw) s.heap.objs.size f cdv)).units + 8 < cLine := by
      omega
    have big : sizeLine > 100000 := by decide
    refine ⟨_, pss_cons (ps_set (i := 1) scLaw.nd rfl (Or.inl rfl) (pe_call GS hr1 rfl cS.g cS.k bS .nil pass0 (pa_cons (pv 0) pa_nil)))
      (pss_cons (ps_if (pt_not (pt_val (pe_callG GFu ag hr8 rfl cFu.g cFu.k bFu (pa_cons (pv 1) pa_nil)))) (pss_one (ps_ret pe_bl)) pss_nil)
      (pss_cons (ps_for PassesOwn.never rfl (pi_range1 rfl rg (pa_cons pe_int pa_nil)) (pg_name (i := 2) scLaw.nd rfl (Or.inl rfl)) (pss_cons (ps_set (i := 3) scLaw.nd rfl (Or.inl rfl) (pe_call GW hr5 rfl cW.g cW.k bW .nil pass0 (pa_cons (pv 1) pa_nil)))
        (pss_cons (ps_asg (pe_tup (pa_cons (pe_call GSt hr7 rfl cSt.g cSt.k bSt .nil pass0 (pa_cons (pv 3) pa_nil)) (pa_cons (pe_call GMT hr6 rfl cMT.g cMT.k bMT .nil pass0 (pa_cons (pv 3) pa_nil)) pa_nil))) (pg_tup rfl (pgs_cons (pg_name (i := 4) scLaw.nd rfl (Or.inr rfl)) (pgs_cons (pg_name (i := 5) scLaw.nd rfl (Or.inl rfl)) pgs_nil))))
        (pss_cons (ps_if (PW.pt (pw_or (pt_cmpR (op_neTup (mon_ins sameTb_ext) (RcG.eqG (rcG_ins (GE.imp eq_sp) hE fnE bE (E := E0) pass0) fun _ _ _ ⟨a, b, _, _, _, _, e1, e2, _⟩ => ⟨a, b, e1, e2⟩) hr2) (pe_prop (pv 4) S.cl pp GT hr2 bT .nil pass0 rfl) (pe_callTy call_tupleF (by rfl) T.tuple (by decide +kernel) (pa_cons (pv 5) pa_nil)) (nomark _)) (pw_or (pt_not (pt_val (pe_callG GIs ag hr6 rfl cIs.g cIs.k bIs (pa_cons (pv 4) (pa_cons (pv 3) pa_nil))))) (pw_or1 (pt_not (pt_val (pe_callG GMk ag hr6 rfl cMk.g cMk.k bMk (pa_cons (pv 1) (pa_cons (pv 3) pa_nil))))))))) (pss_one (ps_ret pe_bl)) pss_nil)
        (pss_cons (ps_for PassesOwn.never rfl (pi_range1 rfl rg (pa_cons pe_int pa_nil)) (pg_name (i := 6) scLaw.nd rfl (Or.inl rfl)) (pss_cons (ps_if (pt_not (pt_val (pe_callG GCR ag hr rfl cCR.g cCR.k bCR (pa_cons (pv 1) (pa_cons (pv 4) (pa_cons (pv 3) pa_nil)))))) (pss_one (ps_ret pe_bl)) pss_nil) (pss_cons (ps_set (i := 7) scLaw.nd rfl (Or.inl rfl) (PE.wk (t := tThings K) (pe_ifExp (pt_cmpR op_eq (pe_op op_mod (pv 6) pe_int) pe_int (nomark _)) (pe_call GSg hr4 rfl cSg.g cSg.k bSg .nil pass0 (pa_cons (pv 1) (pa_cons (pv 3) pa_nil))) (pe_lst pa_nil)) (fun σ H Q h => ?_))) (pss_one (ps_if (pt_cmpR (op_neP hu8) (pe_lc (own := [("_law_it", 8)]) (g := gName 8) (tt := tTest (tOp (rInOwn C (spSHas K C CT) (fun _ _ _ => False) false) (tVar 8) (tVar 4))) (te := tVar 8) rfl scLaw.nd (pi_list (pv 7)) (blkOk_by (N := ["_law_script", "_law_source_here", "_law_turn", "_law_world_here", "_law_store_here", "_law_tables", "_law_k", "_law_things", "_law_it", "_law_some", "_law_rows", "_law_table"]) (sc := defScope sLaw) (by decide +kernel)) (fun _ _ _ _ _ => pg_name (i := 8) scLaw.nd rfl (Or.inl rfl)) (fun _ _ _ _ _ => by exact (pts_one (pt_cmpR (op_inOwn aH tH (GH.byPlace bH) hr3 pass0 has_mono) (pv 8) (pv 4) (by rfl)))) (fun _ _ _ _ _ => by exact (pv 8))) (pe_lst pa_nil) (nomark _)) (pss_one (ps_ret pe_bl)) pss_nil)))))
        (pss_one (ps_if (pt_cmpR op_ne (pe_callB (call_reprT ag hu) (by rfl) rp (by decide +kernel) (pa_cons (pe_lc (own := [("_law_some", 9), ("_law_rows", 10)]) (g := gLst K 2 (gCons (gName 9) (gCons (gName 10) gNil))) (tt := tYes) (te := tProp CT (spColumns K CT) [] E0 (tMeth C "table_of" (spTableOf K C CT CU) [] (fun _ _ _ => False) (tVar 4) (tCons (tOp (rIxT K) (tVar 9) (tC (.int 0))) tNil))) rfl scLaw.nd (pi_list (pv 3)) (blkOk_by (N := ["_law_script", "_law_source_here", "_law_turn", "_law_world_here", "_law_store_here", "_law_tables", "_law_k", "_law_things", "_law_it", "_law_some", "_law_rows", "_law_table"]) (sc := defScope sLaw) (by decide +kernel)) (fun _ _ _ _ _ => by exact (pg_lst rfl (by exact (pgs_cons (pg_name (i := 9) scLaw.nd rfl (Or.inl rfl)) (by exact (pgs_cons (pg_name (i := 10) scLaw.nd rfl (Or.inl rfl)) pgs_nil)))))) (fun _ _ _ _ _ => pts_nil) (fun _ _ _ _ _ => by exact (pe_prop (pe_meth (E := fun _ _ _ => False) (pv 4) S.cl S.mTO GTO hr3 bTO .nil passF (pa_cons (pe_ix ix_tup (pv 9) pe_int (fun _ _ => rfl)) pa_nil)) U.cl pq GC hr2 bC .nil pass0 rfl))) pa_nil)) (pe_callB (call_reprT ag hu) (by rfl) rp (by decide +kernel) (pa_cons (pe_lc (own := [("_law_table", 11)]) (g := gName 11) (tt := tYes) (te := tProp CT (spColumns K CT) [] E0 (tVar 11)) rfl scLaw.nd (pi_list (pv 5)) (blkOk_by (N := ["_law_script", "_law_source_here", "_law_turn", "_law_world_here", "_law_store_here", "_law_tables", "_law_k", "_law_things", "_law_it", "_law_some", "_law_rows", "_law_table"]) (sc := defScope sLaw) (by decide +kernel)) (fun _ _ _ _ _ => pg_name (i := 11) scLaw.nd rfl (Or.inl rfl)) (fun _ _ _ _ _ => pts_nil) (fun _ _ _ _ _ => by exact (pe_prop (pv 11) U.cl pq GC hr2 bC .nil pass0 rfl))) pa_nil)) (nomark _)) (pss_one (ps_ret pe_bl)) pss_nil)))))))
      (pss_one (ps_ret pe_bl)))), ?_⟩
    · obtain ⟨kk, s1, l1, w1, ms, z, b, ps, rls, ts, rss, e6, e1, e3, hs, b0, b1, wl, wn, wi, off, kq⟩ := h
      refine ⟨_, e6, _, _, rfl, rfl, (by show (0 : Int) < 6; decide), rfl, _, rfl, ?_⟩
      refine ite2 (fun e => ?_) (fun e => ?_)
      · exact ⟨_, e1, _, e3, s1, l1, w1, ms, z, b, ps, rls, ts, rss, rfl, hs, b0, b1, wl, wn, wi, off, fun H' ms' b' D xs us kb hs' c1 c2 eD nD ds nt lu => kq H' ms' b' D xs us kb hs' c1 c2 eD nD ds nt lu⟩
      · exact ⟨by show 0 ≤ sizeLine; omega, fun p hp => kq _ ms b p [] [] (But.of_same (same_upd hp)) (hs.but (same_upd hp)) (by omega) (by omega) upd_same hp .nil Nots.nil (by decide)⟩
    refine ⟨_, rfl, sc, ns, rfl, hS, hlen, fun H1 a l ms z s1 na nl hs1 => ?_⟩
    refine ⟨_, rfl, ?_⟩
    dsimp only [tNil]
    refine ⟨a, l, ms, z, 0, rfl, hs1, by decide, by decide, fun H2 ms2 b2 k2 hs2 c1 c2 => ⟨_, rfl, iteF ?_⟩⟩
    refine ⟨3, rfl, by decide, by decide, for_range (lo := 0) (n := 3) (fun i σ H' => ∃ (ms' : List Int) (b' : Int) (v2 v3 v4 v5 v6 v7 v8 v9 v10 v11 : Option V), σ = [some (.ref sc), some (.ref a), v2, v3, v4, v5, v6, v7, v8, v9, v10, v11] ∧ Src H' a l ms' z b' ∧ 0 ≤ b' ∧ b' ≤ 40 + 20000 * (i : Int)) ⟨ms2, b2, none, none, none, none, none, none, none, none, none, none, rfl, hs2, by omega, by omega⟩ ?_ ?_⟩
    · rintro i σ H3 hi ⟨ms3, b3, v2, v3, v4, v5, v6, v7, v8, v9, v10, v11, rfl, hs3, d1, d2⟩
      refine ⟨_, rfl, a, l, ms3, z, b3, rfl, hs3, by omega, by omega, fun H4 ms4 b4 w4 ps rls ts k4 hs4 c1 c2 wl4 off4 wn => ?_⟩
      have okt : ∀ t ∈ ts, t.ok := fun t m => (wn.ok t m).g
      have few3 := wn.few
      have off : ∀ c ∈ w4 :: (ps ++ rls), Off a l c := fun c m => (off4 c m).1
      refine ⟨_, rfl, w4, ps, rls, ts, ts.map fun _ => [], rfl, wl4, wn, fun H5 st dx tp rd wv qs s5 nst nrd sa5 => ⟨_, rfl, w4, ps, rls, ts, ts.map fun _ => [], rfl, wl4.same s5, wn, fun H6 TD ws2 s6 nTD eTD tb6 => ⟨by show 2 ≤ sizeLine; omega, fun p7 hp7 => ?_⟩⟩⟩
      have s7 := same_upd (o := .tup [V.ref st, .ref TD]) hp7
      have q7 : upd H6 p7 (.tup [V.ref st, .ref TD]) p7 = some (.tup [V.ref st, .ref TD]) := upd_same
      generalize upd H6 p7 (.tup [V.ref st, .ref TD]) = H7 at s7 q7 ⊢
      refine ⟨p7, _, rfl, SqT.of q7, rfl, _, _, rfl, _, _, rfl, rfl, ?_⟩
      have e0 : (ts.map fun _ => ([] : List Row)).map sortR = ts.map fun _ => [] := by
        rw [List.map_map]
        refine List.map_congr_left fun _ _ => ?_
        show sortR [] = []
        simp [sortR]
      rw [← e0] at sa5
      have s57 := s6.trans s7
      have s47 := s5.trans s57
      have sa7 := sa5.same s57
      have hs7 := hs4.but s47
      have wl7 := wl4.same s47
      have eTD7 := s7 _ _ eTD
      have tb7 := tbs_same tb6 s7
      -- the tables
      refine ⟨_, rfl, st, dx, _, rfl, sa7.hs, st, dx, tp, rd, wv, ts, qs, _, rfl, sa7, _, rfl, TD, ws2, rfl, SqL.of eTD7, fun q o hq ho => ?_⟩
      have s8 := same_upd (o := .frz o (.tup ws2)) hq
      have e8 : upd H7 q (.frz o (.tup ws2)) q = some (.frz o (.tup ws2)) := upd_same
      generalize upd H7 q (.frz o (.tup ws2)) = H8 at s8 e8 ⊢
      have sa8 := sa7.same s8
      refine ⟨⟨tp, q, wv, ws2, rfl, rfl, sa8.ht, .inl (.inr ⟨o, e8⟩), tabs_prs sa8.tb (tbs_same tb7 s8)⟩, fun H9 ext => ⟨_, rfl, iteF ?_⟩⟩
      have s79 : Same H7 H9 := s8.trans ext
      have sa9 := sa7.same s79
      have wl9 := wl7.same s79
      have hs9 := hs7.but s79
      refine ⟨_, rfl, _, rfl, ?_⟩
      dsimp only [tNil]
      refine ⟨st, dx, tp, rd, wv, qs, w4, ps, rls, ts, _, rfl, sa9, wl9, wn, winv_nil, fun H10 s10 => ⟨_, rfl, iteF ?_⟩⟩
      have hs10 := hs9.but s10
      refine ⟨_, rfl, _, rfl, ?_⟩
      dsimp only [tNil]
      refine ⟨a, l, ms4, z, b4, .ref w4, rfl, hs10, by omega, by omega, fun H11 ms11 k11 hs11 => ⟨_, rfl, iteF ?_⟩⟩
      have s710 := s79.trans s10
      have nl11 : NL H7 H11 := (NL.of_same s710).trans (k11.nl hs10)
      have sa11 := sa7.nl nl11
      have wl11 := (wl7.same s710).keep (fun c m o e => k11 _ _ (off c m).1 (off c m).2 e) (k11.fz hs10)
      have offT : Off a l TD := (hs4.but s5).free nTD
      have eTD11 := k11 _ _ offT.1 offT.2 (s710 _ _ eTD7)
      have tb11 : TbsAt K H11 CT ws2 ts := tb7.mono fun _ _ z => z.nl nl11
      have TDrd : TD ≠ rd := fun e => by
        rw [e, sa11.hd] at eTD11
        cases eTD11
      have wl5 := wl4.same s5
      have TDps : TD ∉ ps := fun m => by
        obtain ⟨xs, e⟩ := wl5.there TD (List.mem_cons_of_mem _ (List.mem_append_left _ m))
        rw [nTD] at e
        cases e
      have lw2 : ws2.length = ts.length := tb11.length
      refine ⟨60, rfl, by decide, by decide, for_range (lo := 0) (n := 60) (fun j σ H' => ∃ (ms' : List Int) (b' : Int) (qs' rls' : List Addr) (rss' : List (List Row)) (v6 v7 : Option V), σ = [some (.ref sc), some (.ref a), some (.int (0 + (i : Int))), some (.ref w4), some (.ref st), some (.ref TD), v6, v7, v8, v9, v10, v11] ∧ BK a l rd ps H11 H' ∧ Src H' a l ms' z b' ∧ b4 ≤ b' ∧ b' ≤ b4 + 1 + 210 * (j : Int) ∧
          StAt K H' C CT st dx tp rd wv ts qs' (rss'.map sortR) ∧ Wl H' w4 ps rls' ts rss' ∧ WInv ts rss' ∧ (∀ c ∈ w4 :: (ps ++ rls'), Off a l c)) ⟨ms11, b4 + 1, qs, rls, _, _, _, rfl, (fun _ _ _ _ _ _ e => e), hs11, by omega, by omega, sa11, wl11, winv_nil, off⟩ ?_ ?_⟩
      · rintro j σ H12 hj ⟨ms12, b12, qs12, rls12, rss12, v6', v7', rfl, bk12, hs12, g1, g2, sa12, wl12, wi12, off12⟩
        refine ⟨_, rfl, _, rfl, _, rfl, ?_⟩
        dsimp only [tNil]
        refine ⟨a, l, st, w4, ms12, z, b12, dx, tp, rd, wv, ps, rls12, ts, qs12, rss12, rfl, hs12, by omega, by omega, sa12, wl12, wn, wi12, off12, fun H13 ms13 b13 qs13 rls13 rss13 bk13 hs13 f1 f2 sa13 wl13 wi13 off13 => ⟨_, rfl, iteF ?_⟩⟩
        refine ⟨0 + (j : Int), a, l, w4, ms13, z, b13, ps, rls13, ts, rss13, rfl, rfl, rfl, hs13, by omega, by omega, wl13, wn, wi13, off13, fun H14 ms14 b14 D xs us k14 hs14 f3 f4 eD nD ds nots lu => ?_⟩
        have sa14 := sa13.nl (k14.nl hs13)
        have wl14 := wl13.keep (fun c m o e => k14 _ _ (off13 c m).1 (off13 c m).2 e) (k14.fz hs13)
        refine ⟨_, rfl, D, rfl, ⟨_, SqL.of eD⟩, fun D2 hD2 => ?_⟩
        refine lc_list (K := K) (a := D) (xs := xs) (fun j2 H' => Same H14 H' ∧ H' D2 = some (.lst [])) ⟨same_upd hD2, upd_same⟩ (fun _ _ _ zz => SqL.of (zz.1 _ _ eD)) ?_ ?_
        · rintro j2 y H15 hy ⟨s15, e15⟩
          obtain ⟨t, et, bs, dt, _⟩ := (ds.same s15).get hy
          obtain ⟨hf, hw⟩ := nots t (List.mem_of_getElem? et)
          have sa15 := sa14.same s15
          refine ⟨rfl, ?_⟩
          refine ⟨_, rfl, _, rfl, st, dx, _, rfl, sa15.hs, st, dx, tp, rd, wv, ts, qs13, _, y, t, 3, bs, rfl, sa15, okt, dt, by omega, fun H16 s16 => ⟨false, by rw [hf], _, rfl, ?_⟩⟩
          exact iteF ⟨s15.trans s16, s16 _ _ e15⟩
        rintro H15 ⟨s15, e15⟩
        refine ⟨by show 0 ≤ sizeLine; omega, fun q16 hq16 => ?_⟩
        have s16 := same_upd (o := .lst []) hq16
        refine ⟨.list [], .list [], .lst (SqL.of (s16 _ _ e15)) .nil, .lst (SqL.of upd_same) .nil, rfl, rfl, by decide, _, rfl, ?_⟩
        have sE := s15.trans s16
        exact iteF ⟨ms14, b14, qs13, rls13, rss13, _, _, rfl, ((bk12.trans bk13).trans (.of_but k14)).trans (.of_same sE), hs14.but sE, by omega, by omega, sa14.same sE, wl14.same sE, wi13, off13⟩
      · rintro σ H12 ⟨ms12, b12, qs12, rls12, rss12, v6', v7', rfl, bk12, hs12, g1, g2, sa12, wl12, wi12, off12⟩
        have tb12 : TbsAt K H12 CT ws2 ts := tb11.mono fun _ _ z => z.nd (bk12.nd hs11 sa11.hd wl11)
        have eTD12 := bk12 _ _ offT.1 offT.2 TDrd TDps eTD11
        have txt : (Tr.lst (ts.map colT)).text.length ≤ sizeLine := by
          have x1 := Tr.text_le (.lst (ts.map colT))
          have x2 : (Tr.lst (ts.map colT)).w = 3 + Vm.ws (ts.map colT) := rfl
          have x3 := colsT_w okt
          omega
        refine ⟨_, rfl, w4, rfl, ⟨_, SqL.of wl12.hw⟩, fun D3 hD3 => ?_⟩
        refine lc_list (K := K) (a := w4) (xs := ps.map V.ref) (fun j H' => Same H12 H' ∧ ∃ ys, H' D3 = some (.lst ys) ∧ DPs K H' (fun c => c ≠ D3) ys ((ts.take j).map colT) 1 ∧ ys.length = j) ⟨same_upd hD3, [], upd_same, .nil, rfl⟩ (fun j H' _ zz => SqL.of (zz.1 _ _ wl12.hw)) ?_ ?_
        · rintro j y H13 hj ⟨s13, ys, e13, dp13, ly⟩
          have jlt : j < ts.length := by
            have := (List.getElem?_eq_some_iff.mp hj).1
            rw [List.length_map, wl12.lp] at this
            exact this
          obtain ⟨pj, rlj, tj, rsj, f1, _, f3, f4, smj, vsj, h0, ⟨oj, b1, b2, b3, hsj, hodj, _⟩, _, _⟩ := wl12.at jlt
          rw [List.getElem?_map, f1] at hj
          obtain rfl := Option.some.inj hj
          have sa13 := sa12.same s13
          have gj := okt tj (List.mem_of_getElem? f3)
          refine ⟨pj, [.ref smj, .ref rlj], rfl, SqL.of (s13 _ _ h0), rfl, _, _, rfl, _, _, rfl, rfl, ?_⟩
          refine ⟨rfl, ?_⟩
          dsimp only [tYes]
          rw [if_pos rfl]
          have fj := first_nm wn.nd f3
          refine ⟨_, rfl, st, dx, _, rfl, sa13.hs, rfl, _, rfl, smj, _, 0, .str tj.nm, rfl, rfl, .inl (.inr ⟨oj, s13 _ _ hsj⟩), rfl, st, dx, tp, rd, wv, ts, qs12, _, .str tj.nm, .str tj.nm, 0, [], rfl, sa13, .str (Nat.le_trans (nm_text gj.n1).1 (by decide)) (Nat.le_trans (nm_text gj.n1).2 (by decide)), fun i' w' H14 fi hw s14 => ?_, fun zz => ?_⟩
          · rw [fj] at fi
            obtain rfl := Option.some.inj fi
            obtain ⟨t', et', x, rfl, tbx⟩ := each_get (sa13.same s14).tb hw
            rw [f3] at et'
            obtain rfl := Option.some.inj et'
            obtain ⟨⟨dxx, _, _, _, hx, _⟩, _⟩ := id tbx
            exact ⟨x, dxx, _, rfl, hx, x, _, _, _, _, rfl, tbx, fun q H15 s15 tq => col_snoc hD3 s13 e13 dp13 ly f3 gj few3 (s14.trans s15) tq⟩
          · rw [fj] at zz
            cases zz
        rintro H13 ⟨s13, ys, e13, dp13, ly⟩
        rw [List.length_map, wl12.lp, List.take_length] at dp13
        obtain ⟨bsA, dA⟩ := col_dt e13 dp13
        refine ⟨.ref D3, _, 2, bsA, rfl, dA, by decide, txt, ?_⟩
        have eTD13 := s13 _ _ eTD12
        refine ⟨_, rfl, TD, rfl, ⟨_, SqL.of eTD13⟩, fun D4 hD4 => ?_⟩
        refine lc_list (K := K) (a := TD) (xs := ws2) (fun j H' => Same H13 H' ∧ ∃ ys, H' D4 = some (.lst ys) ∧ DPs K H' (fun c => c ≠ D4) ys ((ts.take j).map colT) 1 ∧ ys.length = j) ⟨same_upd hD4, [], upd_same, .nil, rfl⟩ (fun j H' _ zz => SqL.of (zz.1 _ _ eTD13)) ?_ ?_
        · rintro j y H14 hj ⟨s14, ys', e14, dp14, ly'⟩
          obtain ⟨tj, et, x, rfl, tbx⟩ := each_get (tbs_same tb12 (s13.trans s14)) hj
          obtain ⟨⟨dxx, _, _, _, hx, _⟩, _⟩ := id tbx
          refine ⟨rfl, ?_⟩
          dsimp only [tYes]
          rw [if_pos rfl]
          exact ⟨_, rfl, x, dxx, _, rfl, hx, x, _, _, _, _, rfl, tbx, fun q H15 s15 tq => col_snoc hD4 s14 e14 dp14 ly' et (okt tj (List.mem_of_getElem? et)) few3 s15 tq⟩
        rintro H14 ⟨s14, ys', e14, dp14, ly'⟩
        rw [lw2, List.take_length] at dp14
        obtain ⟨bsB, dB⟩ := col_dt e14 dp14
        refine ⟨.ref D4, _, 2, bsB, rfl, dB, by decide, txt, rfl, _, rfl, ?_⟩
        rw [decide_eq_true rfl]
        exact iteF ⟨ms12, b12, _, _, _, _, _, _, _, _, _, _, rfl, hs12.but (s13.trans s14), by omega, by omega⟩
    · rintro σ H2 _
      exact k H2
end
end Vm
namespace Vk
open PySem PySem.Spec PyProof.Rows L2
/-- one except clause: its class, the slot of its name if it has one, its suite -/
structure Clause where
  c : Value
  slot : Option Nat
  ts : Addr → Value → Option Addr → TS
/-- the ends of a suite whose name is in slot i -/
def Ends.drop (D : Ends) (i : Nat) : Ends := { nx := fun σ H => D.nx (σ.set i none) H, rt := D.rt, bk := fun σ H => D.bk (σ.set i none) H, ct := fun σ H => D.ct (σ.set i none) H }
def Clause.runs (k : Clause) (D : Ends) (a : Addr) (cls : Value) (d : Option Addr) (σ : L2.St) (H : Hp) : Prop := match k.slot with
  | none => k.ts a cls d D σ H
  | some i => k.ts a cls d (Ends.drop D i) (σ.set i (some (.ref a))) H
/-- what the clauses wish of an exception of the body -/
def wMix (K : PySem.W.Frag) (Wout : WX) (D : Ends) : List Clause → WX
  | [] => Wout
  | k :: r => fun cls d σ H => ∃ b, PySem.W.exmOne K cls k.c = some b ∧ (b = true → ∀ a, H a = none → k.runs D a cls d σ H) ∧ (b = false → wMix K Wout D r cls d σ H)
inductive Mix (X : Cx) : List ExceptHandler → List Clause → Prop
  | nil : Mix X [] []
  | plain {x : Str} {c : Value} {ts : Addr → Value → Option Addr → TS} {b₀ : Stmt} {suite : List Stmt} {np pos' : Pos} {hds : List ExceptHandler} {l : List Clause} (hc : Names X x c)
      (hsu : ∀ (a : Addr) (oe : Obj) (cls : Value) (d : Option Addr) (pn : List (Addr × Obj)), Zc cls d oe → (∃ vs, oe.data = .fields vs) → PSs (X.suite a ((a, oe) :: pn)) (b₀ :: suite) (ts a cls d)) (r : Mix X hds l) :
      Mix X (.ExceptHandler (some (.Name x np)) none (b₀ :: suite) pos' :: hds) (⟨c, none, ts⟩ :: l)
  | named {x n : Str} {i : Nat} {c : Value} {ts : Addr → Value → Option Addr → TS} {b₀ : Stmt} {suite : List Stmt} {np pos' : Pos} {hds : List ExceptHandler} {l : List Clause} (hi : X.N[i]? = some n) (hl : X.env.kindOf n = some .local) (hc : Names X x c)
      (hsu : ∀ (a : Addr) (oe : Obj) (cls : Value) (d : Option Addr) (pn : List (Addr × Obj)), Zc cls d oe → (∃ vs, oe.data = .fields vs) → PSs (X.suite a ((a, oe) :: pn)) (b₀ :: suite) (ts a cls d)) (r : Mix X hds l) :
      Mix X (.ExceptHandler (some (.Name x np)) (some n) (b₀ :: suite) pos' :: hds) (⟨c, some i, ts⟩ :: l)
section
variable {X : Cx} {body : List Stmt} {h₀ : ExceptHandler} {hds : List ExceptHandler} {l : List Clause} {pos : Pos} {tb : WX → TS} {Wout : WX}
theorem ps_try_mix (hs : X.stack = X.env :: X.outer) (hf : X.env.frame = some X.env.locals) (hN : X.N.Nodup) (tk : Takes X Wout)
    (hb : ∀ (W : WX) (pn : List (Addr × Obj)) (xe : Value → Shared → Prop), Takes (X.tr pn xe) W → PassesOwn (model X.prog X.w) X.A X.env xe → PSs (X.tr pn xe) body (tb W))
    (hh : Mix X (h₀ :: hds) l) : PS X (.Try body (h₀ :: hds) [] [] pos) (fun D σ H => tb (wMix X.K Wout D l) D σ H) := by
  constructor
  intro pins s σ H D I start
  have ok := I.ok
  have frm : X.A.frames = some (X.env :: X.outer) := by rw [ok.frames, hs]
  refine wpAny_Try_except ?_
  have body_run := (hb (wMix X.K Wout D l) (X.pn ++ pins)
    (fun e s₁ => wpAny (model X.prog X.w) X.A (noteFrame e X.env) (fun _ s₂ => wpAny (model X.prog X.w) X.A (setFlight e none)
      (fun _ s₃ => wpAny (model X.prog X.w) X.A (handleBy e X.env (h₀ :: hds)) (SP X pins D) X.xe s₃) X.xe s₂) X.xe s₁)
    (fun u s' caught => by
      obtain ⟨a, B, sI, pins', σ', H', cls, d, rfl, J', nb, up, sky, na, os, ag, want⟩ := caught
      have J : Inv X pins σ' H' sI := J'.ofTry ok
      have sky2 : Sky B (X.env :: X.outer) a (Zc cls d) X.env.locals s'.heap := by
        rw [← hs]
        exact sky
      show wpAny (model X.prog X.w) X.A (noteFrame (.ref a) X.env) _ _ _
      refine Sky.land Zc.steady frm hf sky2 fun h3 fly up3 => ?_
      have J3 : Inv X pins σ' H' { s' with heap := h3 } := J.landed nb fly.1 (up.trans up3) os ag
      obtain ⟨o3, v3, get3, cl3, dt3⟩ := fly.there
      have apart : a ∉ frs (X.env :: X.outer) := fun hm => by
        obtain ⟨_, o', e', hnf⟩ := fly.2.2.1.mem hm
        rw [get3] at e'
        cases e'
        exact hnf _ dt3
      have offL : a ≠ X.env.locals := fun z => apart (List.mem_filterMap.mpr ⟨X.env, List.mem_cons_self, by rw [hf, z]⟩)
      have offF : a ∉ X.fs := fun hm => by
        obtain ⟨e, he, q⟩ := List.mem_filterMap.mp hm
        exact apart (List.mem_filterMap.mpr ⟨e, List.mem_cons_of_mem _ he, q⟩)
      have S3 := J3.suite get3 dt3 na offL offF
      have tyE : PySem.W.Looks (model X.prog X.w) h3 (typeOf (.ref a)) cls := fun A Q E s k q => wpAny_typeOf_ref (k _ _ get3) (by rw [cl3.1]; exact q)
      have look : ∀ {x : Str} {c : Value} {np : Pos} {Q : Value → Shared → Prop} {E : Value → Shared → Prop}, Names X x c → Q c { s' with heap := h3 } →
          wpAny (model X.prog X.w) (X.A.mark (some (.ref a))) (eval (.Name x np) X.env) Q E { s' with heap := h3 } := fun {x c np Q E} nmd q => by
        obtain ⟨hg, hdbg, hm | ⟨hm, hv, hnn⟩⟩ := nmd
        · exact ld_glob (X := X.suite a ((a, o3) :: (X.pn ++ pins))) S3 hg hm q hdbg
        · exact ld_blt (X := X.suite a ((a, o3) :: (X.pn ++ pins))) S3 hg hm hv q hnn hdbg
      have all : ∀ {hds' : List ExceptHandler} {l' : List Clause}, Mix X hds' l' → wMix X.K Wout D l' cls d σ' H' → wpAny (model X.prog X.w) X.A (handleBy (.ref a) X.env hds') (SP X pins D) X.xe { s' with heap := h3 } := by
        intro hds' l' mix
        induction mix with
        | nil =>
          intro want'
          refine wpAny_handleBy_nil ?_
          obtain ⟨k1, k2, k3, oe, vs, T, oT, ts', he, hz, hd, h1, hr⟩ := id fly
          unfold PySem.passOn
          refine wpAny_bind (wpAny_field he hd h1 ?_)
          rw [if_neg (show ¬ ((Value.ref T == Value.none) = true) from by simp)]
          have off : wpAny (model X.prog X.w) X.A (setFlight (.ref a) X.env.frame) (fun _ s4 => wpAny (model X.prog X.w) X.A (throw (.ref a) : Sem Flow) (SP X pins D) X.xe s4) X.xe { s' with heap := h3 } := by
            rw [hf]
            refine HandSPX.setFlight_upZ fly fun h4 hh4 up4 => wpAny_throw (tk _ _ ?_)
            exact ⟨a, B, sI, pins, σ', H', cls, d, rfl, J, nb, (up.trans up3).trans up4, .inr (.inr (by rw [hs]; exact hh4)), na, os, ag, want'⟩
          first
            | exact wpAny_bind (wpAny_pure (wpAny_bind off))
            | exact wpAny_bind off
        | plain hc hsu r ih =>
          intro want'
          obtain ⟨b, hb1, hyes, hno⟩ := want'
          refine wpAny_handleBy_cons (codeAny_handlers_test ?_) (by intro q; cases q)
          refine look hc ((PySem.W.exm_one (M := model X.prog X.w) J3.kIn tyE hb1).here ?_)
          cases b with
          | false =>
            show wpAny _ X.A (handleBy (.ref a) X.env _) _ _ _
            exact ih (hno rfl)
          | true =>
            refine codeAny_handlers_suite ?_
            refine HandSPX.lands_againZ fly fun h4 fl4 up4 => ?_
            have J4 : Inv X pins σ' H' { s' with heap := h4 } := J.landed nb fl4.1 ((up.trans up3).trans up4) os ag
            obtain ⟨o4, v4, get4, cl4, dt4⟩ := fl4.there
            have S4 := J4.suite get4 dt4 na offL offF
            refine wpAny_mono ((hsu a o4 cls d (X.pn ++ pins) cl4 ⟨_, dt4⟩).run [] _ _ H' _ S4 (hyes rfl a na)) (fun f s6 hsp => ?_) (fun _ _ z => False.elim z)
            cases f with
            | next =>
              obtain ⟨σ6, H6, S6, q6⟩ := hsp
              exact ⟨_, _, S6.unsuite ok, q6⟩
            | brk =>
              obtain ⟨σ6, H6, S6, q6⟩ := hsp
              exact ⟨_, _, S6.unsuite ok, q6⟩
            | cont =>
              obtain ⟨σ6, H6, S6, q6⟩ := hsp
              exact ⟨_, _, S6.unsuite ok, q6⟩
            | ret u =>
              obtain ⟨v6, σ6, H6, S6, r6, q6⟩ := hsp
              exact ⟨_, _, _, S6.unsuite ok, r6, q6⟩
        | @named x n i c ts b₀ suite np pos' hds2 l2 hi hln hc hsu r ih =>
          intro want'
          obtain ⟨b, hb1, hyes, hno⟩ := want'
          refine wpAny_handleBy_cons (codeAny_handlers_test ?_) (by intro q; cases q)
          refine look hc ((PySem.W.exm_one (M := model X.prog X.w) J3.kIn tyE hb1).here ?_)
          cases b with
          | false =>
            show wpAny _ X.A (handleBy (.ref a) X.env _) _ _ _
            exact ih (hno rfl)
          | true =>
            refine codeAny_handlers_suite_as ?_
            refine HandSPX.lands_againZ fly fun h4 fl4 up4 => ?_
            have J4 : Inv X pins σ' H' { s' with heap := h4 } := J.landed nb fl4.1 ((up.trans up3).trans up4) os ag
            obtain ⟨o4, v4, get4, cl4, dt4⟩ := fl4.there
            have S4 := J4.suite get4 dt4 na offL offF
            refine store_ok (X := X.suite a ((a, o4) :: (X.pn ++ pins))) (v := .ref a) S4 hN hi (.inl hln) rfl (fun s5 S5 => ?_) (.inr hln)
            refine wpAny_mono ((hsu a o4 cls d (X.pn ++ pins) cl4 ⟨_, dt4⟩).run [] s5 _ H' _ S5 (hyes rfl a na)) (fun f s6 hsp => ?_) (fun _ _ z => False.elim z)
            have wipe : ∀ {σ6 : L2.St} {H6 : Hp} {Q : Shared → Prop}, Inv (X.suite a ((a, o4) :: (X.pn ++ pins))) [] σ6 H6 s6 → (∀ s7, Inv X pins (σ6.set i none) H6 s7 → Q s7) →
                wpAny (model X.prog X.w) X.A (do bindName X.env n .none; unbindBehindTheSuite X.env n pos') (fun _ s7 => Q s7) X.xe s6 := fun {σ6 H6 Q} S6 hq => gone_ok (S6.unsuite ok) hN hi hln hq
            cases f with
            | next =>
              obtain ⟨σ6, H6, S6, q6⟩ := hsp
              exact wipe S6 fun s7 J7 => ⟨_, _, J7, q6⟩
            | brk =>
              obtain ⟨σ6, H6, S6, q6⟩ := hsp
              exact wipe S6 fun s7 J7 => ⟨_, _, J7, q6⟩
            | cont =>
              obtain ⟨σ6, H6, S6, q6⟩ := hsp
              exact wipe S6 fun s7 J7 => ⟨_, _, J7, q6⟩
            | ret u =>
              obtain ⟨v6, σ6, H6, S6, r6, q6⟩ := hsp
              exact wipe S6 fun s7 J7 => ⟨_, _, _, J7, r6, q6⟩
      exact all hh want) PassesOwn.looking).run [] s σ H D (I.toTry _) start
  refine wpAny_mono body_run (fun f s1 hsp => ?_) (fun e s1 he => he)
  cases f with
  | next =>
    obtain ⟨σ', H', J', q⟩ := hsp
    exact wpAny_execs_nil ⟨σ', H', J'.ofTry ok, q⟩
  | brk =>
    obtain ⟨σ', H', J', q⟩ := hsp
    exact ⟨σ', H', J'.ofTry ok, q⟩
  | cont =>
    obtain ⟨σ', H', J', q⟩ := hsp
    exact ⟨σ', H', J'.ofTry ok, q⟩
  | ret u =>
    obtain ⟨v, σ', H', J', r, q⟩ := hsp
    exact ⟨v, σ', H', J'.ofTry ok, r, q⟩
end
end Vk
namespace Vk
open PySem L2
/-- the base of a family, as the written part has it -/
structure XBase (K : PySem.W.Frag) (mg : Str → Option Value) (x : Str) (T : Addr) (initId : String) : Prop where
  g : mg x = some (.ref T)
  sg : PySem.W.specialIn K (.ref T) "__getattribute__" = some (some (.builtin "type.__getattribute__"))
  ty : PySem.W.typeIn K (.ref T) = some (.type "type")
  rd : PySem.W.readsIn K T (.type "type") = true
  fi : PySem.W.findCls K (.ref T) (.type "type") "__init__" = some (.val (.builtin initId))
def aboveB (tl : List Value) : List Value → Bool
  | .ref _ :: r => aboveB tl r
  | l => decide (l = tl)
theorem aboveB_ok {tl : List Value} : ∀ {l : List Value}, aboveB tl l = true → Above tl l
  | [], h => of_decide_eq_true (p := [] = tl) h
  | .ref c :: r, h => aboveB_ok (l := r) h
  | .none :: r, h => of_decide_eq_true (p := (Value.none :: r) = tl) h
  | .ellipsis :: r, h => of_decide_eq_true (p := (Value.ellipsis :: r) = tl) h
  | .notImplemented :: r, h => of_decide_eq_true (p := (Value.notImplemented :: r) = tl) h
  | .bool b :: r, h => of_decide_eq_true (p := (Value.bool b :: r) = tl) h
  | .int i t :: r, h => of_decide_eq_true (p := (Value.int i t :: r) = tl) h
  | .float i t :: r, h => of_decide_eq_true (p := (Value.float i t :: r) = tl) h
  | .str i t :: r, h => of_decide_eq_true (p := (Value.str i t :: r) = tl) h
  | .bytes i t :: r, h => of_decide_eq_true (p := (Value.bytes i t :: r) = tl) h
  | .type i :: r, h => of_decide_eq_true (p := (Value.type i :: r) = tl) h
  | .builtin i :: r, h => of_decide_eq_true (p := (Value.builtin i :: r) = tl) h
def clsB (K : PySem.W.Frag) (C : Addr) (nid : String) (tl : List Value) : Bool := match K.lookup C with
  | some ⟨ct, _, .cls cd, ⟨[_, _, _, _, some k4, _]⟩⟩ => decide (ct = .type "type") && (decide (k4 = .builtin nid) && (decide (cd.mro = .ref C :: cd.mro.tail) && (aboveB tl cd.mro.tail && (cd.hasDict && !cd.hasDel))))
  | _ => false
theorem both {a b : Bool} (h : (a && b) = true) : a = true ∧ b = true := Bool.and_eq_true_iff.mp h
theorem clsB_ok {K : PySem.W.Frag} {C : Addr} {nid : String} {tl : List Value} (h : clsB K C nid tl = true) :
    ∃ nm q N bs bm sn sub ab col dd k0 k1 k2 k3 k5, K.lookup C = some (excClassObj nm q C N bs bm true sn sub ab col dd k0 k1 k2 k3 k5 nid) ∧ Above tl bm := by
  unfold clsB at h
  split at h
  · rename_i ct dd cd k0 k1 k2 k3 k4 k5 e
    obtain ⟨h1, h⟩ := both h
    obtain ⟨h2, h⟩ := both h
    obtain ⟨h3, h⟩ := both h
    obtain ⟨h4, h⟩ := both h
    obtain ⟨h5, h6⟩ := both h
    have e1 := of_decide_eq_true h1
    have e2 := of_decide_eq_true h2
    have e3 := of_decide_eq_true h3
    obtain ⟨n, bs, mro, ns, q, hD, sn, sub, ab, col, hdel⟩ := cd
    have e5 : hD = true := h5
    have e6 : hdel = false := by
      cases hdel with
      | false => rfl
      | true => cases h6
    have e3' : mro = .ref C :: mro.tail := e3
    cases mro with
    | nil => cases e3'
    | cons y r =>
      injection e3' with ey
      refine ⟨n, q, ns, bs, r, sn, sub, ab, col, dd, k0, k1, k2, k3, k5, ?_, aboveB_ok h4⟩
      rw [e, e1, e2, e5, e6, ey]
  · cases h
def xcB (K : PySem.W.Frag) (C : Addr) (nid : String) (tl : List Value) : Bool := clsB K C nid tl && (decide (PySem.W.findIn K (.ref C) "__setattr__" = some (some (.builtin "object.__setattr__"))) && (decide (PySem.W.subIn K (.ref C) (.type "BaseException") = some true) &&
  (decide (PySem.W.typeIn K (.ref C) = some (.type "type")) && (PySem.W.keepIn K (.ref C) && (decide (PySem.W.findIn K (.ref C) "__getattribute__" = some (some (.builtin "BaseException.__getattribute__"))) && (decide (PySem.W.findIn K (.ref C) "__getattr__" = some none) &&
  (PySem.W.hasDictIn K C && (decide (PySem.W.findIn K (.ref C) "__class__" = some (some (.builtin "object.__class__"))) && decide (PySem.W.mroIn K C (.type "object") = some true)))))))))
theorem xcB_ok {K : PySem.W.Frag} {C : Addr} {nid : String} {tl : List Value} (h : xcB K C nid tl = true) : XC K C nid tl := by
  obtain ⟨h1, h⟩ := both h
  obtain ⟨h2, h⟩ := both h
  obtain ⟨h3, h⟩ := both h
  obtain ⟨h4, h⟩ := both h
  obtain ⟨h5, h⟩ := both h
  obtain ⟨h6, h⟩ := both h
  obtain ⟨h7, h⟩ := both h
  obtain ⟨h8, h⟩ := both h
  obtain ⟨h9, h10⟩ := both h
  exact ⟨clsB_ok h1, of_decide_eq_true h2, of_decide_eq_true h3, of_decide_eq_true h4, h5, of_decide_eq_true h6, of_decide_eq_true h7, h8, of_decide_eq_true h9, of_decide_eq_true h10⟩
def baB (K : PySem.W.Frag) (T : Addr) (initId : String) : Bool := decide (PySem.W.specialIn K (.ref T) "__getattribute__" = some (some (.builtin "type.__getattribute__"))) && (decide (PySem.W.typeIn K (.ref T) = some (.type "type")) && (PySem.W.readsIn K T (.type "type") &&
  (match PySem.W.findCls K (.ref T) (.type "type") "__init__" with
    | some (.val v) => decide (v = .builtin initId)
    | _ => false)))
theorem baB_ok {K : PySem.W.Frag} {T : Addr} {initId : String} {mg : Str → Option Value} {x : Str} (g : mg x = some (.ref T)) (h : baB K T initId = true) : XBase K mg x T initId := by
  obtain ⟨h1, h⟩ := both h
  obtain ⟨h2, h⟩ := both h
  obtain ⟨h3, h4⟩ := both h
  refine ⟨g, of_decide_eq_true h1, of_decide_eq_true h2, h3, ?_⟩
  split at h4
  · rename_i v e
    rw [e, of_decide_eq_true h4]
  · cases h4
abbrev sIC : Stmt := inClass (Vm.top 5) 0
abbrev sIU : Stmt := inClass (Vm.top 8) 0
section
variable {P : Program} {w : World} {K : PySem.W.Frag} {mg : Str → Option Value} {base : Heap}
theorem scIC : FnScope ["self", "change"] ["self", "change"] (defScope sIC) := ⟨rfl, rfl, rfl, by decide +kernel, rfl, by decide +kernel, by decide +kernel⟩
theorem ok_initC {f C T : Addr} {fd : FuncData} (F : Fun K "__init__" "InvalidChange.__init__" sIC f fd) (X : XC K C "ValueError.__new__" veT) (B : XBase K mg "TurnError" T "ValueError.__init__") (no : PySem.W.findIn K (.ref C) "change" = some none) :
    FnOk P w K mg base CX0 1 f fd ["self", "change"] (spXInit C "change") := by
  refine F.ok scIC (fun vs H Q E h => ?_) (fun cdv A outer s H vs Q E hr h => ?_)
  · obtain ⟨e, v, rfl, _⟩ := h
    rfl
  · obtain ⟨e, v, rfl, he, k⟩ := h
    refine ⟨_, pss_cons (ps_expr (pe_binit famV rfl B.g B.sg B.ty B.rd B.fi (by decide +kernel) (pa_cons (pv 0) (pa_cons pe_str pa_nil)))) (pss_one (ps_xst famV (pv 0) (pv 1))), ?_⟩
    exact ⟨_, rfl, e, C, _, rfl, (by show 1 ≤ 1000; decide), X, he, _, rfl, _, rfl, e, C, rfl, X, no, he, k⟩
theorem scIU : FnScope ["self", "name"] ["self", "name"] (defScope sIU) := ⟨rfl, rfl, rfl, by decide +kernel, rfl, by decide +kernel, by decide +kernel⟩
theorem ok_initU {f C T : Addr} {fd : FuncData} (F : Fun K "__init__" "UnknownTable.__init__" sIU f fd) (X : XC K C "LookupError.__new__" keT) (B : XBase K mg "Unknown" T "KeyError.__init__") (no : PySem.W.findIn K (.ref C) "name" = some none) :
    FnOk P w K mg base CX0 1 f fd ["self", "name"] (spXInit C "name") := by
  refine F.ok scIU (fun vs H Q E h => ?_) (fun cdv A outer s H vs Q E hr h => ?_)
  · obtain ⟨e, v, rfl, _⟩ := h
    rfl
  · obtain ⟨e, v, rfl, he, k⟩ := h
    refine ⟨_, pss_cons (ps_expr (pe_binit famK rfl B.g B.sg B.ty B.rd B.fi (by decide +kernel) (pa_cons (pv 0) (pa_cons pe_str pa_nil)))) (pss_one (ps_xst famK (pv 0) (pv 1))), ?_⟩
    exact ⟨_, rfl, e, C, _, rfl, (by show 1 ≤ 1000; decide), X, he, _, rfl, _, rfl, e, C, rfl, X, no, he, k⟩
end
end Vk
namespace Vm
open PySem L2
/-! the lengths of changes; Store.MOST -/
def kvB (e : DictEntry) (x : Str) (i : Int) : Bool := match e.key, e.val with
  | .str y _, .int j _ => decide (y = x) && decide (j = i)
  | _, _ => false
theorem kvB_ok {e : DictEntry} {x : Str} {i : Int} (h : kvB e x i = true) : (∀ z : Str, e.key.isStr z = (x == z)) ∧ e.refKey = false ∧ RelV (.int i) e.val := by
  unfold kvB at h
  split at h
  · rename_i y t j u ek ev
    obtain ⟨h1, h2⟩ := Bool.and_eq_true_iff.mp h
    have e1 := of_decide_eq_true h1
    have e2 := of_decide_eq_true h2
    subst e1 e2
    refine ⟨fun z => ?_, ?_, ?_⟩
    · rw [ek]
      rfl
    · unfold DictEntry.refKey
      rw [ek]
    · rw [ev]
      exact ⟨u, rfl⟩
  · cases h
def lensB (K : PySem.W.Frag) (a : Addr) : Bool := match K.lookup a with
  | some ⟨_, _, .dict es _, _⟩ => (match es.toList with
    | [e1, e2, e3] => kvB e1 insS 3 && (kvB e2 delS 3 && kvB e3 repS 4)
    | _ => false)
  | _ => false
theorem lens_ok {K : PySem.W.Frag} {a : Addr} (h : lensB K a = true) : ∀ z, ∃ r, PySem.W.nsIn K a z = some r ∧ RelV (lenV z) (r.getD .none) := by
  unfold lensB at h
  split at h
  · rename_i c d es n sl l
    split at h
    · rename_i e1 e2 e3 el
      obtain ⟨h1, h⟩ := Bool.and_eq_true_iff.mp h
      obtain ⟨h2, h3⟩ := Bool.and_eq_true_iff.mp h
      obtain ⟨a1, b1, c1⟩ := kvB_ok h1
      obtain ⟨a2, b2, c2⟩ := kvB_ok h2
      obtain ⟨a3, b3, c3⟩ := kvB_ok h3
      intro z
      unfold PySem.W.nsIn
      rw [l]
      dsimp only
      rw [el, List.find?_cons, a1]
      by_cases q1 : z = insS
      · subst q1
        rw [beq_self_eq_true]
        exact ⟨_, rfl, by
          have : lenV insS = .int 3 := by decide +kernel
          rw [this]
          exact c1⟩
      rw [beq_eq_false_iff_ne.mpr fun q => q1 q.symm]
      dsimp only
      rw [List.find?_cons, a2]
      by_cases q2 : z = delS
      · subst q2
        rw [beq_self_eq_true]
        exact ⟨_, rfl, by
          have : lenV delS = .int 3 := by decide +kernel
          rw [this]
          exact c2⟩
      rw [beq_eq_false_iff_ne.mpr fun q => q2 q.symm]
      dsimp only
      rw [List.find?_cons, a3]
      by_cases q3 : z = repS
      · subst q3
        rw [beq_self_eq_true]
        exact ⟨_, rfl, by
          rw [lenV_rep]
          exact c3⟩
      rw [beq_eq_false_iff_ne.mpr fun q => q3 q.symm]
      dsimp only
      rw [List.find?_nil]
      dsimp only
      have e : lenV z = .non := by
        unfold lenV
        rw [if_neg q1, if_neg (show ¬ z = "delete" from q2), if_neg (show ¬ z = "replace" from q3)]
      rw [e]
      refine ⟨none, ?_, rfl⟩
      rw [if_neg]
      simp [b1, b2, b3]
    · cases h
  · cases h
def mostB (K : PySem.W.Frag) (C : Addr) : Bool := match PySem.W.findCls K (.ref C) (.type "type") "MOST" with
  | some (.val (.int i _)) => decide (i = 3)
  | _ => false
theorem mostB_ok {K : PySem.W.Frag} {C : Addr} (h : mostB K C = true) : ∃ u, ClX.CVal K C (.type "type") "MOST" (.int 3) u := by
  unfold mostB at h
  split at h
  · rename_i i t e
    exact ⟨_, e, by
      rw [of_decide_eq_true h]
      exact ⟨t, rfl⟩⟩
  · cases h
end Vm
namespace Vm
open PySem L2
/-! the written part, read by names -/
theorem both {a b : Bool} (h : (a && b) = true) : a = true ∧ b = true := Bool.and_eq_true_iff.mp h
/-- a def that stands at a -/
def fnAt (K : PySem.W.Frag) (a : Addr) : He.FnV := match K.lookup a with
  | some ⟨_, _, .func fd, _⟩ => some (fd.name, fd.qualname, fd.params, fd.body, fd.scope, fd.globals, fd.closure, fd.defaults, fd.builtins)
  | _ => none
def codeAt (K : PySem.W.Frag) (a : Addr) (q : Str) : Bool := match K.lookup a with
  | some ⟨_, _, .func fd, _⟩ => PySem.W.codeIn K fd.code q
  | _ => false
theorem fnAt_ok {K : PySem.W.Frag} {a : Addr} {x q : Str} {st : Stmt} (e : fnAt K a = some (x, q, defArgs st, .stmts (defBody st), defScope st, mainGlobals, [], .none, builtinsNs)) (c : codeAt K a q = true) : ∃ fd, Fun K x q st a fd := by
  have kp : PySem.W.keepIn K (.ref a) = true := by
    unfold codeAt at c
    unfold PySem.W.keepIn
    split at c
    · rename_i l
      dsimp only
      simp only [l]
    · cases c
  unfold fnAt at e
  unfold codeAt at c
  cases l : K.lookup a with
  | none =>
    rw [l] at c
    cases c
  | some o =>
    obtain ⟨oc, od, dt, osl⟩ := o
    rw [l] at c e
    cases dt with
    | func fd =>
      obtain ⟨n1, n2, n3, n4, n5, n6, n7, n8, n9, n10, n11, n12, n13, n14, n15⟩ := fd
      have e2 : (some (n1, n2, n3, n4, n5, n6, n7, n8, n15) : He.FnV) = some (x, q, defArgs st, .stmts (defBody st), defScope st, mainGlobals, [], .none, builtinsNs) := e
      simp only [Option.some.injEq, Prod.mk.injEq] at e2
      obtain ⟨h1, h2, h3, h4, h5, h6, h7, h8, h9⟩ := e2
      subst h1 h2 h3 h4 h5 h6 h7 h8 h9
      exact ⟨_, fun_mk l c kp⟩
    | _ => cases c
def tyNames : List String := ["NoneType", "bool", "int", "str", "list", "tuple", "dict"]
theorem tyNames_all {p : String → Bool} (h : tyNames.all p = true) (t : Tr) : p (tyOf t) = true := by
  refine List.all_eq_true.mp h _ ?_
  cases t <;> simp [tyNames, tyOf]
def ktupB (K : PySem.W.Frag) (a : Addr) : Bool := match K.lookup a with
  | some ⟨.type c, _, .seq its _, _⟩ => decide (c = "tuple") && decide (its.toList = [])
  | _ => false
theorem ktupB_ok {K : PySem.W.Frag} {a : Addr} (h : ktupB K a = true) : KTup K a := by
  unfold ktupB at h
  split at h
  · rename_i c dd its n sl l
    obtain ⟨h1, h2⟩ := both h
    have e1 := of_decide_eq_true h1
    have e2 := of_decide_eq_true h2
    refine ⟨_, its, n, l, by rw [e1], rfl, ?_, ?_⟩
    · have : its.size = 0 := by
        rw [← Array.length_toList, e2]
        rfl
      rw [this]
      exact Nat.zero_le _
    · rw [e2]
      exact .nil
  · cases h
abbrev aT (K : PySem.W.Frag) : Addr := He.ga K "Table"
abbrev aS (K : PySem.W.Frag) : Addr := He.ga K "Store"
abbrev aI (K : PySem.W.Frag) : Addr := He.ga K "InvalidTable"
abbrev aZ (K : PySem.W.Frag) : Addr := He.ga K "InvalidStore"
abbrev aX (K : PySem.W.Frag) : Addr := He.ga K "InvalidChange"
abbrev aU (K : PySem.W.Frag) : Addr := He.ga K "UnknownTable"
abbrev aL (K : PySem.W.Frag) : Addr := He.ga K "_LENGTHS"
def pA (K : PySem.W.Frag) : Addr := He.ma K (aT K) "columns"
def pB (K : PySem.W.Frag) : Addr := He.ma K (aS K) "tables"
def recG (K : PySem.W.Frag) (p : Addr) : Addr := match PySem.W.recIn K p "property" with
  | some (.ref g :: _) => g
  | _ => 0
def gA (K : PySem.W.Frag) : Addr := recG K (pA K)
def gB (K : PySem.W.Frag) : Addr := recG K (pB K)
def recB (K : PySem.W.Frag) (p : Addr) : Bool := match PySem.W.recIn K p "property" with
  | some (.ref _ :: _) => true
  | _ => false
theorem recB_ok {K : PySem.W.Frag} {p : Addr} (h : recB K p = true) : ∃ rest, PySem.W.recIn K p "property" = some (.ref (recG K p) :: rest) := by
  unfold recB at h
  split at h
  · rename_i g r e
    refine ⟨r, ?_⟩
    unfold recG
    rw [e]
  · cases h
abbrev d0 : PySem.W.Frag → Addr := He.dflAt ("Table", some "__init__") 0
abbrev d1 : PySem.W.Frag → Addr := He.dflAt ("Table", some "__init__") 1
def gDef : He.FnV := some ("columns", "Table.columns", defArgs sColumns, .stmts (defBody sColumns), defScope sColumns, mainGlobals, [], .none, builtinsNs)
def gDefB : He.FnV := some ("tables", "Store.tables", defArgs sSTables, .stmts (defBody sSTables), defScope sSTables, mainGlobals, [], .none, builtinsNs)
def dInit : He.DefD := { at_ := ("Table", some "__init__"), name := "__init__", qual := "Table.__init__", params := defArgs sInit, body := defBody sInit, scope := defScope sInit, dfl := [.adr d0, .adr d1] }

def chk (K : PySem.W.Frag) : Bool :=
  ((dInit.ok K) &&
  ((ktupB K (d0 K)) &&
  ((ktupB K (d1 K)) &&
  ((codeAt K (gA K) "Table.columns") &&
  ((codeAt K (gB K) "Store.tables") &&
  ((He.eqO (PySem.W.findIn K (.ref (aT K)) "columns") (some (some (.ref (pA K))))) &&
  ((decide (PySem.W.specialIn K (.ref (pA K)) "__get__" = some (some (.builtin "property.__get__")))) &&
  ((decide (PySem.W.takesIn K (.ref (pA K)) = some true)) &&
  ((recB K (pA K)) &&
  ((He.eqO (PySem.W.findIn K (.ref (aS K)) "tables") (some (some (.ref (pB K))))) &&
  ((decide (PySem.W.specialIn K (.ref (pB K)) "__get__" = some (some (.builtin "property.__get__")))) &&
  ((decide (PySem.W.takesIn K (.ref (pB K)) = some true)) &&
  ((recB K (pB K)) &&
  ((decide (PySem.W.findIn K (.ref (aT K)) "__class__" = some (some (.builtin "object.__class__")))) &&
  ((decide (PySem.W.specialIn K (.builtin "object.__class__") "__get__" = some (some (.builtin "getset_descriptor.__get__")))) &&
  ((decide (PySem.W.takesIn K (.builtin "object.__class__") = some true)) &&
  ((decide (PySem.W.mroIn K (aT K) (.type "object") = some true)) &&
  ((decide (PySem.W.kitOne K (.ref (aT K)) (.ref (aT K)) = some true)) &&
  ((tyNames.all fun T => decide (PySem.W.kitOne K (.type T) (.ref (aT K)) = some false)) &&
  ((Vk.xcB K (aX K) "ValueError.__new__" Vk.veT) &&
  ((Vk.xcB K (aU K) "LookupError.__new__" Vk.keT) &&
  ((Vk.baB K (He.ga K "TurnError") "ValueError.__init__") &&
  ((Vk.baB K (He.ga K "Unknown") "KeyError.__init__") &&
  ((decide (PySem.W.kitOne K (.ref (aX K)) (.ref (He.ga K "TurnError")) = some true)) &&
  ((decide (PySem.W.kitOne K (.ref (aX K)) (.type "ValueError") = some true)) &&
  ((decide (PySem.W.findIn K (.ref (aZ K)) "__getattribute__" = some (some (.builtin "BaseException.__getattribute__")))) &&
  ((decide (PySem.W.findIn K (.ref (aZ K)) "__getattr__" = some none)) &&
  ((PySem.W.hasDictIn K (aZ K)) &&
  ((decide (PySem.W.findIn K (.ref (aZ K)) "__class__" = some (some (.builtin "object.__class__")))) &&
  ((decide (PySem.W.mroIn K (aZ K) (.type "object") = some true)) &&
  ((decide (PySem.W.kitOne K (.ref (aZ K)) (.ref (He.ga K "TurnError")) = some true)) &&
  ((decide (PySem.W.kitOne K (.ref (aZ K)) (.type "ValueError") = some true)) &&
  ((lensB K (aL K)) &&
  ((mostB K (aS K)) &&
  ((PySem.W.readsIn K (aS K) (.type "type")) &&
  (decide (PySem.W.specialIn K (.ref (aS K)) "__getattribute__" = some (some (.builtin "type.__getattribute__")))))))))))))))))))))))))))))))))))))))
def faL : List He.Fa := [.glo "_law_source", .glo "_law_draw", .glo "_law_pick", .glo "_law_columns", .glo "_law_arguments", .glo "_law_world", .glo "_law_made_tables", .glo "_law_store", .glo "_law_row", .glo "_law_near", .glo "_law_key", .glo "_law_is_barred", .glo "_law_is_possible", .glo "_law_change", .glo "_law_follow", .glo "_law_told", .glo "_law_odd", .glo "_law_done", .glo "_law_is_so", .glo "_law_strange", .glo "_law_rows_of", .glo "_law_call_right", .glo "_law_refused", .glo "_law_making_right", .glo "_law_full_right", .glo "law", .glo "is_number", .glo "is_name", .glo "_are_columns", .glo "_are_names", .glo "_is_key", .glo "table_named", .glo "_taken_and_put", .glo "_clashes", .glo "is_possible_in", .glo "rows_after", .glo "changed_parts", .glo "is_change_of", .glo "Table", .glo "Store", .glo "InvalidTable", .glo "InvalidStore", .glo "TurnError", .glo "InvalidChange", .glo "UnknownTable", .glo "Unknown", .glo "_LENGTHS", .free "isinstance", .free "int", .free "bool", .free "str", .free "tuple", .free "len", .free "all", .free "any", .free "set", .free "list", .free "range", .free "repr", .free "enumerate", .free "min", .free "max", .free "sum", .free "sorted", .free "zip", .free "ValueError", .int "_LONGEST_NAME" 8, .int "_MOST_COLUMNS" 2, .cls "Table", .cls "Store", .noat "Table" "name", .noat "Table" "names", .noat "Table" "numbers", .noat "Table" "key", .noat "Store" "_tables", .noat "Store" "_rows", .noat "InvalidChange" "change", .noat "UnknownTable" "name", .meth "Table" "is_row", .meth "Table" "clash", .meth "Table" "__eq__", .meth "Store" "table_of", .meth "Store" "rows_of", .meth "Store" "is_change", .meth "Store" "is_possible", .meth "Store" "walk", .meth "Store" "__len__", .meth "Store" "__contains__", .meth "InvalidChange" "__init__", .meth "UnknownTable" "__init__", .meth "Store" "do", .mkr "Table", .mkr "Store", .exc "InvalidTable", .exc "InvalidStore", .exm "InvalidChange" "InvalidChange" true, .exm "InvalidStore" "InvalidStore" true]
def fnL : List He.FnD := [⟨("_law_source", none), "_law_source", "_law_source", defArgs sSource, defBody sSource, defScope sSource⟩, ⟨("_law_draw", none), "_law_draw", "_law_draw", defArgs sDraw, defBody sDraw, defScope sDraw⟩, ⟨("_law_pick", none), "_law_pick", "_law_pick", defArgs sPick, defBody sPick, defScope sPick⟩, ⟨("_law_columns", none), "_law_columns", "_law_columns", defArgs sColumnsL, defBody sColumnsL, defScope sColumnsL⟩, ⟨("_law_arguments", none), "_law_arguments", "_law_arguments", defArgs sArgs, defBody sArgs, defScope sArgs⟩, ⟨("_law_world", none), "_law_world", "_law_world", defArgs sWorld, defBody sWorld, defScope sWorld⟩, ⟨("_law_made_tables", none), "_law_made_tables", "_law_made_tables", defArgs sMadeT, defBody sMadeT, defScope sMadeT⟩, ⟨("_law_store", none), "_law_store", "_law_store", defArgs sStoreL, defBody sStoreL, defScope sStoreL⟩, ⟨("_law_row", none), "_law_row", "_law_row", defArgs sRowL, defBody sRowL, defScope sRowL⟩, ⟨("_law_near", none), "_law_near", "_law_near", defArgs sNear, defBody sNear, defScope sNear⟩, ⟨("_law_key", none), "_law_key", "_law_key", defArgs sKeyL, defBody sKeyL, defScope sKeyL⟩, ⟨("_law_is_barred", none), "_law_is_barred", "_law_is_barred", defArgs sBarred, defBody sBarred, defScope sBarred⟩, ⟨("_law_is_possible", none), "_law_is_possible", "_law_is_possible", defArgs sPossL, defBody sPossL, defScope sPossL⟩, ⟨("_law_change", none), "_law_change", "_law_change", defArgs sChangeL, defBody sChangeL, defScope sChangeL⟩, ⟨("_law_follow", none), "_law_follow", "_law_follow", defArgs sFollow, defBody sFollow, defScope sFollow⟩, ⟨("_law_told", none), "_law_told", "_law_told", defArgs sTold, defBody sTold, defScope sTold⟩, ⟨("_law_odd", none), "_law_odd", "_law_odd", defArgs sOddL, defBody sOddL, defScope sOddL⟩, ⟨("_law_done", none), "_law_done", "_law_done", defArgs sDone, defBody sDone, defScope sDone⟩, ⟨("_law_is_so", none), "_law_is_so", "_law_is_so", defArgs sIsSo, defBody sIsSo, defScope sIsSo⟩, ⟨("_law_strange", none), "_law_strange", "_law_strange", defArgs sStrange, defBody sStrange, defScope sStrange⟩, ⟨("_law_rows_of", none), "_law_rows_of", "_law_rows_of", defArgs sRowsOfL, defBody sRowsOfL, defScope sRowsOfL⟩, ⟨("_law_call_right", none), "_law_call_right", "_law_call_right", defArgs sCall, defBody sCall, defScope sCall⟩, ⟨("_law_refused", none), "_law_refused", "_law_refused", defArgs sRefused, defBody sRefused, defScope sRefused⟩, ⟨("_law_making_right", none), "_law_making_right", "_law_making_right", defArgs sMaking, defBody sMaking, defScope sMaking⟩, ⟨("_law_full_right", none), "_law_full_right", "_law_full_right", defArgs sFull, defBody sFull, defScope sFull⟩, ⟨("law", none), "law", "law", defArgs sLaw, defBody sLaw, defScope sLaw⟩, ⟨("is_number", none), "is_number", "is_number", defArgs sIsNum, defBody sIsNum, defScope sIsNum⟩, ⟨("is_name", none), "is_name", "is_name", defArgs sIsName, defBody sIsName, defScope sIsName⟩, ⟨("_are_columns", none), "_are_columns", "_are_columns", defArgs sAreCols, defBody sAreCols, defScope sAreCols⟩, ⟨("_are_names", none), "_are_names", "_are_names", defArgs sAreNames, defBody sAreNames, defScope sAreNames⟩, ⟨("_is_key", none), "_is_key", "_is_key", defArgs sIsKey, defBody sIsKey, defScope sIsKey⟩, ⟨("table_named", none), "table_named", "table_named", defArgs sNamed, defBody sNamed, defScope sNamed⟩, ⟨("_taken_and_put", none), "_taken_and_put", "_taken_and_put", defArgs sTaken, defBody sTaken, defScope sTaken⟩, ⟨("_clashes", none), "_clashes", "_clashes", defArgs sClashes, defBody sClashes, defScope sClashes⟩, ⟨("is_possible_in", none), "is_possible_in", "is_possible_in", defArgs sPossIn, defBody sPossIn, defScope sPossIn⟩, ⟨("rows_after", none), "rows_after", "rows_after", defArgs sAfter, defBody sAfter, defScope sAfter⟩, ⟨("changed_parts", none), "changed_parts", "changed_parts", defArgs sParts, defBody sParts, defScope sParts⟩, ⟨("is_change_of", none), "is_change_of", "is_change_of", defArgs sChangeOf, defBody sChangeOf, defScope sChangeOf⟩, ⟨("Table", some "is_row"), "is_row", "Table.is_row", defArgs sIsRow, defBody sIsRow, defScope sIsRow⟩, ⟨("Table", some "clash"), "clash", "Table.clash", defArgs sClash, defBody sClash, defScope sClash⟩, ⟨("Table", some "__eq__"), "__eq__", "Table.__eq__", defArgs sEq, defBody sEq, defScope sEq⟩, ⟨("Store", some "table_of"), "table_of", "Store.table_of", defArgs sTableOf, defBody sTableOf, defScope sTableOf⟩, ⟨("Store", some "rows_of"), "rows_of", "Store.rows_of", defArgs sRowsOf, defBody sRowsOf, defScope sRowsOf⟩, ⟨("Store", some "is_change"), "is_change", "Store.is_change", defArgs sIsChange, defBody sIsChange, defScope sIsChange⟩, ⟨("Store", some "is_possible"), "is_possible", "Store.is_possible", defArgs sIsPossible, defBody sIsPossible, defScope sIsPossible⟩, ⟨("Store", some "walk"), "walk", "Store.walk", defArgs sWalk, defBody sWalk, defScope sWalk⟩, ⟨("Store", some "__len__"), "__len__", "Store.__len__", defArgs sSLen, defBody sSLen, defScope sSLen⟩, ⟨("Store", some "__contains__"), "__contains__", "Store.__contains__", defArgs sSHas, defBody sSHas, defScope sSHas⟩, ⟨("InvalidChange", some "__init__"), "__init__", "InvalidChange.__init__", defArgs Vk.sIC, defBody Vk.sIC, defScope Vk.sIC⟩, ⟨("UnknownTable", some "__init__"), "__init__", "UnknownTable.__init__", defArgs Vk.sIU, defBody Vk.sIU, defScope Vk.sIU⟩, ⟨("Store", some "do"), "do", "Store.do", defArgs sDo, defBody sDo, defScope sDo⟩, ⟨("Store", some "__init__"), "__init__", "Store.__init__", defArgs sSInit, defBody sSInit, defScope sSInit⟩]
section
variable {K : PySem.W.Frag} {h : Heap} {mg : Str → Option Value} {fa : List He.Fa} {fn : List He.FnD}
theorem fun_of (c : He.SaysE fa fn K) (i : Nat) {p : Str × Option Str} {x q : Str} {st : Stmt} (e : fn[i]? = some ⟨p, x, q, defArgs st, defBody st, defScope st⟩) : ∃ fd, Fun K x q st (He.fAd K p) fd := by
  obtain ⟨oc, od, osl, kV, doc, pm, an, cdv, ct, l, cc⟩ := c.def_ i e
  refine ⟨_, fun_mk l cc ?_⟩
  show PySem.W.keepIn K (.ref (He.fAd K p)) = true
  unfold PySem.W.keepIn
  dsimp only at l
  simp only [l]
theorem _root_.L2.Fun.kb {x qual : Str} {st : Stmt} {f : Addr} {fd : FuncData} {ps ks : List Str} {g : List Value → List Value → List Value} {gV : List V → List V → List V} (F : Fun K x qual st f fd)
    (e : ∀ (kV doc pm : Value) (an : Option Addr) (cdv ct : Value) (us ws : List Value), (g us ws).length = ps.length → bindArgs (PySem.W.fnOf x qual (defArgs st) (defBody st) (defScope st) .none kV doc pm an cdv ct) ⟨us, ks.zip ws⟩ = pure (ps.zip (g us ws)))
    (rel : ∀ {vs : List V} {us : List Value} {zs : List V} {ws : List Value}, Vals vs us → Vals zs ws → Vals (gV vs zs) (g us ws)) : KBinds K fd ps ks g gV := ⟨fun s us ws _ hl => by
  obtain ⟨oc, od, kV, doc, pm, an, cdv, ct, osl, rfl, lk, hcd⟩ := F.ex
  exact .of_eq (e kV doc pm an cdv ct us ws hl), rel⟩
end

section
variable {P : Program} {w : World} {K : PySem.W.Frag} {h : Heap} {mg : Str → Option Value}
theorem all_of (X : K.In h) (G : h.Ns mainGlobals mg) (c : He.SaysE faL fnL K) (z : chk K = true) (eI : He.fnW K ("Table", some "__init__") = dInit.val) (eG : fnAt K (gA K) = gDef) (eB : fnAt K (gB K) = gDefB) (eD : He.dicW K (aL K) = some (He.keysIn w.params ["insert", "delete", "replace"])) {f : Addr} (hf : mg "law" = some (.ref f)) :
    ∃ fd : FuncData, (∀ (s : Shared) (v : Value), BindsTo s fd ⟨[v], []⟩ [("_law_script", v)]) ∧ ∀ base : Heap, K.In base → base.Ns mainGlobals mg → FnG P w K mg base CX0 10 f fd ["_law_script"] (spLaw K) := by
  obtain ⟨z1, z⟩ := both z
  obtain ⟨z2, z⟩ := both z
  obtain ⟨z3, z⟩ := both z
  obtain ⟨z4, z⟩ := both z
  obtain ⟨z5, z⟩ := both z
  obtain ⟨z6, z⟩ := both z
  obtain ⟨z7, z⟩ := both z
  obtain ⟨z8, z⟩ := both z
  obtain ⟨z9, z⟩ := both z
  obtain ⟨z10, z⟩ := both z
  obtain ⟨z11, z⟩ := both z
  obtain ⟨z12, z⟩ := both z
  obtain ⟨z13, z⟩ := both z
  obtain ⟨z14, z⟩ := both z
  obtain ⟨z15, z⟩ := both z
  obtain ⟨z16, z⟩ := both z
  obtain ⟨z17, z⟩ := both z
  obtain ⟨z18, z⟩ := both z
  obtain ⟨z19, z⟩ := both z
  obtain ⟨z20, z⟩ := both z
  obtain ⟨z21, z⟩ := both z
  obtain ⟨z22, z⟩ := both z
  obtain ⟨z23, z⟩ := both z
  obtain ⟨z24, z⟩ := both z
  obtain ⟨z25, z⟩ := both z
  obtain ⟨z26, z⟩ := both z
  obtain ⟨z27, z⟩ := both z
  obtain ⟨z28, z⟩ := both z
  obtain ⟨z29, z⟩ := both z
  obtain ⟨z30, z⟩ := both z
  obtain ⟨z31, z⟩ := both z
  obtain ⟨z32, z⟩ := both z
  obtain ⟨z33, z⟩ := both z
  obtain ⟨z34, z⟩ := both z
  obtain ⟨z35, z⟩ := both z
  obtain ⟨fdS, FS⟩ := fun_of c 0 (p := ("_law_source", none)) (x := "_law_source") (q := "_law_source") (st := sSource) rfl
  have cS : Calls K mg "_law_source" (He.ga K "_law_source") := ⟨He.glo_ok X G (c.fact 0 (f := .glo "_law_source") rfl), FS.kp⟩
  have bS : Binds K fdS ["_law_script"] [] := FS.binds fun _ _ _ _ _ _ us hl => match us, hl with | [_], _ => rfl
  obtain ⟨fdD, FD⟩ := fun_of c 1 (p := ("_law_draw", none)) (x := "_law_draw") (q := "_law_draw") (st := sDraw) rfl
  have cD : Calls K mg "_law_draw" (He.ga K "_law_draw") := ⟨He.glo_ok X G (c.fact 1 (f := .glo "_law_draw") rfl), FD.kp⟩
  have bD : Binds K fdD ["_law_source_here", "_law_many"] [] := FD.binds fun _ _ _ _ _ _ us hl => match us, hl with | [_, _], _ => rfl
  obtain ⟨fdP, FP⟩ := fun_of c 2 (p := ("_law_pick", none)) (x := "_law_pick") (q := "_law_pick") (st := sPick) rfl
  have cP : Calls K mg "_law_pick" (He.ga K "_law_pick") := ⟨He.glo_ok X G (c.fact 2 (f := .glo "_law_pick") rfl), FP.kp⟩
  have bP : Binds K fdP ["_law_source_here", "_law_items"] [] := FP.binds fun _ _ _ _ _ _ us hl => match us, hl with | [_, _], _ => rfl
  obtain ⟨fdLc, FLc⟩ := fun_of c 3 (p := ("_law_columns", none)) (x := "_law_columns") (q := "_law_columns") (st := sColumnsL) rfl
  have cLc : Calls K mg "_law_columns" (He.ga K "_law_columns") := ⟨He.glo_ok X G (c.fact 3 (f := .glo "_law_columns") rfl), FLc.kp⟩
  have bLc : Binds K fdLc ["_law_source_here", "_law_many"] [] := FLc.binds fun _ _ _ _ _ _ us hl => match us, hl with | [_, _], _ => rfl
  obtain ⟨fdLa, FLa⟩ := fun_of c 4 (p := ("_law_arguments", none)) (x := "_law_arguments") (q := "_law_arguments") (st := sArgs) rfl
  have cLa : Calls K mg "_law_arguments" (He.ga K "_law_arguments") := ⟨He.glo_ok X G (c.fact 4 (f := .glo "_law_arguments") rfl), FLa.kp⟩
  have bLa : Binds K fdLa ["_law_source_here", "_law_name"] [] := FLa.binds fun _ _ _ _ _ _ us hl => match us, hl with | [_, _], _ => rfl
  obtain ⟨fdW, FW⟩ := fun_of c 5 (p := ("_law_world", none)) (x := "_law_world") (q := "_law_world") (st := sWorld) rfl
  have cW : Calls K mg "_law_world" (He.ga K "_law_world") := ⟨He.glo_ok X G (c.fact 5 (f := .glo "_law_world") rfl), FW.kp⟩
  have bW : Binds K fdW ["_law_source_here"] [] := FW.binds fun _ _ _ _ _ _ us hl => match us, hl with | [_], _ => rfl
  obtain ⟨fdLm, FLm⟩ := fun_of c 6 (p := ("_law_made_tables", none)) (x := "_law_made_tables") (q := "_law_made_tables") (st := sMadeT) rfl
  have cLm : Calls K mg "_law_made_tables" (He.ga K "_law_made_tables") := ⟨He.glo_ok X G (c.fact 6 (f := .glo "_law_made_tables") rfl), FLm.kp⟩
  have bLm : Binds K fdLm ["_law_world_here"] [] := FLm.binds fun _ _ _ _ _ _ us hl => match us, hl with | [_], _ => rfl
  obtain ⟨fdLs, FLs⟩ := fun_of c 7 (p := ("_law_store", none)) (x := "_law_store") (q := "_law_store") (st := sStoreL) rfl
  have cLs : Calls K mg "_law_store" (He.ga K "_law_store") := ⟨He.glo_ok X G (c.fact 7 (f := .glo "_law_store") rfl), FLs.kp⟩
  have bLs : Binds K fdLs ["_law_world_here"] [] := FLs.binds fun _ _ _ _ _ _ us hl => match us, hl with | [_], _ => rfl
  obtain ⟨fdLr, FLr⟩ := fun_of c 8 (p := ("_law_row", none)) (x := "_law_row") (q := "_law_row") (st := sRowL) rfl
  have cLr : Calls K mg "_law_row" (He.ga K "_law_row") := ⟨He.glo_ok X G (c.fact 8 (f := .glo "_law_row") rfl), FLr.kp⟩
  have bLr : Binds K fdLr ["_law_source_here", "_law_some"] [] := FLr.binds fun _ _ _ _ _ _ us hl => match us, hl with | [_, _], _ => rfl
  obtain ⟨fdLn, FLn⟩ := fun_of c 9 (p := ("_law_near", none)) (x := "_law_near") (q := "_law_near") (st := sNear) rfl
  have cLn : Calls K mg "_law_near" (He.ga K "_law_near") := ⟨He.glo_ok X G (c.fact 9 (f := .glo "_law_near") rfl), FLn.kp⟩
  have bLn : Binds K fdLn ["_law_source_here", "_law_some", "_law_rows"] [] := FLn.binds fun _ _ _ _ _ _ us hl => match us, hl with | [_, _, _], _ => rfl
  obtain ⟨fdLk, FLk⟩ := fun_of c 10 (p := ("_law_key", none)) (x := "_law_key") (q := "_law_key") (st := sKeyL) rfl
  have cLk : Calls K mg "_law_key" (He.ga K "_law_key") := ⟨He.glo_ok X G (c.fact 10 (f := .glo "_law_key") rfl), FLk.kp⟩
  have bLk : Binds K fdLk ["_law_some", "_law_row_here"] [] := FLk.binds fun _ _ _ _ _ _ us hl => match us, hl with | [_, _], _ => rfl
  obtain ⟨fdLb, FLb⟩ := fun_of c 11 (p := ("_law_is_barred", none)) (x := "_law_is_barred") (q := "_law_is_barred") (st := sBarred) rfl
  have cLb : Calls K mg "_law_is_barred" (He.ga K "_law_is_barred") := ⟨He.glo_ok X G (c.fact 11 (f := .glo "_law_is_barred") rfl), FLb.kp⟩
  have bLb : Binds K fdLb ["_law_some", "_law_rows", "_law_row_here"] [] := FLb.binds fun _ _ _ _ _ _ us hl => match us, hl with | [_, _, _], _ => rfl
  obtain ⟨fdLp, FLp⟩ := fun_of c 12 (p := ("_law_is_possible", none)) (x := "_law_is_possible") (q := "_law_is_possible") (st := sPossL) rfl
  have cLp : Calls K mg "_law_is_possible" (He.ga K "_law_is_possible") := ⟨He.glo_ok X G (c.fact 12 (f := .glo "_law_is_possible") rfl), FLp.kp⟩
  have bLp : Binds K fdLp ["_law_world_here", "_law_change_here"] [] := FLp.binds fun _ _ _ _ _ _ us hl => match us, hl with | [_, _], _ => rfl
  obtain ⟨fdLh, FLh⟩ := fun_of c 13 (p := ("_law_change", none)) (x := "_law_change") (q := "_law_change") (st := sChangeL) rfl
  have cLh : Calls K mg "_law_change" (He.ga K "_law_change") := ⟨He.glo_ok X G (c.fact 13 (f := .glo "_law_change") rfl), FLh.kp⟩
  have bLh : Binds K fdLh ["_law_source_here", "_law_world_here"] [] := FLh.binds fun _ _ _ _ _ _ us hl => match us, hl with | [_, _], _ => rfl
  obtain ⟨fdLf, FLf⟩ := fun_of c 14 (p := ("_law_follow", none)) (x := "_law_follow") (q := "_law_follow") (st := sFollow) rfl
  have cLf : Calls K mg "_law_follow" (He.ga K "_law_follow") := ⟨He.glo_ok X G (c.fact 14 (f := .glo "_law_follow") rfl), FLf.kp⟩
  have bLf : Binds K fdLf ["_law_world_here", "_law_change_here"] [] := FLf.binds fun _ _ _ _ _ _ us hl => match us, hl with | [_, _], _ => rfl
  obtain ⟨fdLt, FLt⟩ := fun_of c 15 (p := ("_law_told", none)) (x := "_law_told") (q := "_law_told") (st := sTold) rfl
  have cLt : Calls K mg "_law_told" (He.ga K "_law_told") := ⟨He.glo_ok X G (c.fact 15 (f := .glo "_law_told") rfl), FLt.kp⟩
  have bLt : Binds K fdLt ["_law_world_here"] [] := FLt.binds fun _ _ _ _ _ _ us hl => match us, hl with | [_], _ => rfl
  obtain ⟨fdLo, FLo⟩ := fun_of c 16 (p := ("_law_odd", none)) (x := "_law_odd") (q := "_law_odd") (st := sOddL) rfl
  have cLo : Calls K mg "_law_odd" (He.ga K "_law_odd") := ⟨He.glo_ok X G (c.fact 16 (f := .glo "_law_odd") rfl), FLo.kp⟩
  have bLo : Binds K fdLo ["_law_source_here"] [] := FLo.binds fun _ _ _ _ _ _ us hl => match us, hl with | [_], _ => rfl
  obtain ⟨fdDn, FDn⟩ := fun_of c 17 (p := ("_law_done", none)) (x := "_law_done") (q := "_law_done") (st := sDone) rfl
  have cDn : Calls K mg "_law_done" (He.ga K "_law_done") := ⟨He.glo_ok X G (c.fact 17 (f := .glo "_law_done") rfl), FDn.kp⟩
  have bDn : Binds K fdDn ["_law_store_here", "_law_some"] [] := FDn.binds fun _ _ _ _ _ _ us hl => match us, hl with | [_, _], _ => rfl
  obtain ⟨fdIs, FIs⟩ := fun_of c 18 (p := ("_law_is_so", none)) (x := "_law_is_so") (q := "_law_is_so") (st := sIsSo) rfl
  have cIs : Calls K mg "_law_is_so" (He.ga K "_law_is_so") := ⟨He.glo_ok X G (c.fact 18 (f := .glo "_law_is_so") rfl), FIs.kp⟩
  have bIs : Binds K fdIs ["_law_store_here", "_law_world_here"] [] := FIs.binds fun _ _ _ _ _ _ us hl => match us, hl with | [_, _], _ => rfl
  obtain ⟨fdSg, FSg⟩ := fun_of c 19 (p := ("_law_strange", none)) (x := "_law_strange") (q := "_law_strange") (st := sStrange) rfl
  have cSg : Calls K mg "_law_strange" (He.ga K "_law_strange") := ⟨He.glo_ok X G (c.fact 19 (f := .glo "_law_strange") rfl), FSg.kp⟩
  have bSg : Binds K fdSg ["_law_source_here", "_law_world_here"] [] := FSg.binds fun _ _ _ _ _ _ us hl => match us, hl with | [_, _], _ => rfl
  obtain ⟨fdRw, FRw⟩ := fun_of c 20 (p := ("_law_rows_of", none)) (x := "_law_rows_of") (q := "_law_rows_of") (st := sRowsOfL) rfl
  have cRw : Calls K mg "_law_rows_of" (He.ga K "_law_rows_of") := ⟨He.glo_ok X G (c.fact 20 (f := .glo "_law_rows_of") rfl), FRw.kp⟩
  have bRw : Binds K fdRw ["_law_world_here", "_law_name"] [] := FRw.binds fun _ _ _ _ _ _ us hl => match us, hl with | [_, _], _ => rfl
  obtain ⟨fdCr, FCr⟩ := fun_of c 21 (p := ("_law_call_right", none)) (x := "_law_call_right") (q := "_law_call_right") (st := sCall) rfl
  have cCr : Calls K mg "_law_call_right" (He.ga K "_law_call_right") := ⟨He.glo_ok X G (c.fact 21 (f := .glo "_law_call_right") rfl), FCr.kp⟩
  have bCr : Binds K fdCr ["_law_source_here", "_law_store_here", "_law_world_here"] [] := FCr.binds fun _ _ _ _ _ _ us hl => match us, hl with | [_, _, _], _ => rfl
  obtain ⟨fdRf, FRf⟩ := fun_of c 22 (p := ("_law_refused", none)) (x := "_law_refused") (q := "_law_refused") (st := sRefused) rfl
  have cRf : Calls K mg "_law_refused" (He.ga K "_law_refused") := ⟨He.glo_ok X G (c.fact 22 (f := .glo "_law_refused") rfl), FRf.kp⟩
  have bRf : Binds K fdRf ["_law_some"] [] := FRf.binds fun _ _ _ _ _ _ us hl => match us, hl with | [_], _ => rfl
  obtain ⟨fdMk, FMk⟩ := fun_of c 23 (p := ("_law_making_right", none)) (x := "_law_making_right") (q := "_law_making_right") (st := sMaking) rfl
  have cMk : Calls K mg "_law_making_right" (He.ga K "_law_making_right") := ⟨He.glo_ok X G (c.fact 23 (f := .glo "_law_making_right") rfl), FMk.kp⟩
  have bMk : Binds K fdMk ["_law_source_here", "_law_world_here"] [] := FMk.binds fun _ _ _ _ _ _ us hl => match us, hl with | [_, _], _ => rfl
  obtain ⟨fdFu, FFu⟩ := fun_of c 24 (p := ("_law_full_right", none)) (x := "_law_full_right") (q := "_law_full_right") (st := sFull) rfl
  have cFu : Calls K mg "_law_full_right" (He.ga K "_law_full_right") := ⟨He.glo_ok X G (c.fact 24 (f := .glo "_law_full_right") rfl), FFu.kp⟩
  have bFu : Binds K fdFu ["_law_source_here"] [] := FFu.binds fun _ _ _ _ _ _ us hl => match us, hl with | [_], _ => rfl
  obtain ⟨fdZ, FZ⟩ := fun_of c 25 (p := ("law", none)) (x := "law") (q := "law") (st := sLaw) rfl
  have cZ : Calls K mg "law" (He.ga K "law") := ⟨He.glo_ok X G (c.fact 25 (f := .glo "law") rfl), FZ.kp⟩
  have bZ : Binds K fdZ ["_law_script"] [] := FZ.binds fun _ _ _ _ _ _ us hl => match us, hl with | [_], _ => rfl
  obtain ⟨fdNu, FNu⟩ := fun_of c 26 (p := ("is_number", none)) (x := "is_number") (q := "is_number") (st := sIsNum) rfl
  have cNu : Calls K mg "is_number" (He.ga K "is_number") := ⟨He.glo_ok X G (c.fact 26 (f := .glo "is_number") rfl), FNu.kp⟩
  have bNu : Binds K fdNu ["thing"] [] := FNu.binds fun _ _ _ _ _ _ us hl => match us, hl with | [_], _ => rfl
  obtain ⟨fdNm, FNm⟩ := fun_of c 27 (p := ("is_name", none)) (x := "is_name") (q := "is_name") (st := sIsName) rfl
  have cNm : Calls K mg "is_name" (He.ga K "is_name") := ⟨He.glo_ok X G (c.fact 27 (f := .glo "is_name") rfl), FNm.kp⟩
  have bNm : Binds K fdNm ["thing"] [] := FNm.binds fun _ _ _ _ _ _ us hl => match us, hl with | [_], _ => rfl
  obtain ⟨fdCo, FCo⟩ := fun_of c 28 (p := ("_are_columns", none)) (x := "_are_columns") (q := "_are_columns") (st := sAreCols) rfl
  have cCo : Calls K mg "_are_columns" (He.ga K "_are_columns") := ⟨He.glo_ok X G (c.fact 28 (f := .glo "_are_columns") rfl), FCo.kp⟩
  have bCo : Binds K fdCo ["names", "numbers"] [] := FCo.binds fun _ _ _ _ _ _ us hl => match us, hl with | [_, _], _ => rfl
  obtain ⟨fdNs, FNs⟩ := fun_of c 29 (p := ("_are_names", none)) (x := "_are_names") (q := "_are_names") (st := sAreNames) rfl
  have cNs : Calls K mg "_are_names" (He.ga K "_are_names") := ⟨He.glo_ok X G (c.fact 29 (f := .glo "_are_names") rfl), FNs.kp⟩
  have bNs : Binds K fdNs ["thing"] [] := FNs.binds fun _ _ _ _ _ _ us hl => match us, hl with | [_], _ => rfl
  obtain ⟨fdKe, FKe⟩ := fun_of c 30 (p := ("_is_key", none)) (x := "_is_key") (q := "_is_key") (st := sIsKey) rfl
  have cKe : Calls K mg "_is_key" (He.ga K "_is_key") := ⟨He.glo_ok X G (c.fact 30 (f := .glo "_is_key") rfl), FKe.kp⟩
  have bKe : Binds K fdKe ["thing", "columns"] [] := FKe.binds fun _ _ _ _ _ _ us hl => match us, hl with | [_, _], _ => rfl
  obtain ⟨fdTn, FTn⟩ := fun_of c 31 (p := ("table_named", none)) (x := "table_named") (q := "table_named") (st := sNamed) rfl
  have cTn : Calls K mg "table_named" (He.ga K "table_named") := ⟨He.glo_ok X G (c.fact 31 (f := .glo "table_named") rfl), FTn.kp⟩
  have bTn : Binds K fdTn ["name", "tables"] [] := FTn.binds fun _ _ _ _ _ _ us hl => match us, hl with | [_, _], _ => rfl
  obtain ⟨fdTk, FTk⟩ := fun_of c 32 (p := ("_taken_and_put", none)) (x := "_taken_and_put") (q := "_taken_and_put") (st := sTaken) rfl
  have cTk : Calls K mg "_taken_and_put" (He.ga K "_taken_and_put") := ⟨He.glo_ok X G (c.fact 32 (f := .glo "_taken_and_put") rfl), FTk.kp⟩
  have bTk : Binds K fdTk ["change"] [] := FTk.binds fun _ _ _ _ _ _ us hl => match us, hl with | [_], _ => rfl
  obtain ⟨fdCl, FCl⟩ := fun_of c 33 (p := ("_clashes", none)) (x := "_clashes") (q := "_clashes") (st := sClashes) rfl
  have cCl : Calls K mg "_clashes" (He.ga K "_clashes") := ⟨He.glo_ok X G (c.fact 33 (f := .glo "_clashes") rfl), FCl.kp⟩
  have bCl : Binds K fdCl ["table", "row", "others"] [] := FCl.binds fun _ _ _ _ _ _ us hl => match us, hl with | [_, _, _], _ => rfl
  obtain ⟨fdPi, FPi⟩ := fun_of c 34 (p := ("is_possible_in", none)) (x := "is_possible_in") (q := "is_possible_in") (st := sPossIn) rfl
  have cPi : Calls K mg "is_possible_in" (He.ga K "is_possible_in") := ⟨He.glo_ok X G (c.fact 34 (f := .glo "is_possible_in") rfl), FPi.kp⟩
  have bPi : Binds K fdPi ["change", "table", "rows"] [] := FPi.binds fun _ _ _ _ _ _ us hl => match us, hl with | [_, _, _], _ => rfl
  obtain ⟨fdRa, FRa⟩ := fun_of c 35 (p := ("rows_after", none)) (x := "rows_after") (q := "rows_after") (st := sAfter) rfl
  have cRa : Calls K mg "rows_after" (He.ga K "rows_after") := ⟨He.glo_ok X G (c.fact 35 (f := .glo "rows_after") rfl), FRa.kp⟩
  have bRa : Binds K fdRa ["change", "rows"] [] := FRa.binds fun _ _ _ _ _ _ us hl => match us, hl with | [_, _], _ => rfl
  obtain ⟨fdPt, FPt⟩ := fun_of c 36 (p := ("changed_parts", none)) (x := "changed_parts") (q := "changed_parts") (st := sParts) rfl
  have cPt : Calls K mg "changed_parts" (He.ga K "changed_parts") := ⟨He.glo_ok X G (c.fact 36 (f := .glo "changed_parts") rfl), FPt.kp⟩
  have bPt : Binds K fdPt ["thing", "tables"] [] := FPt.binds fun _ _ _ _ _ _ us hl => match us, hl with | [_, _], _ => rfl
  obtain ⟨fdCf, FCf⟩ := fun_of c 37 (p := ("is_change_of", none)) (x := "is_change_of") (q := "is_change_of") (st := sChangeOf) rfl
  have cCf : Calls K mg "is_change_of" (He.ga K "is_change_of") := ⟨He.glo_ok X G (c.fact 37 (f := .glo "is_change_of") rfl), FCf.kp⟩
  have bCf : Binds K fdCf ["thing", "tables"] [] := FCf.binds fun _ _ _ _ _ _ us hl => match us, hl with | [_, _], _ => rfl
  obtain ⟨fdMr, FMr⟩ := fun_of c 38 (p := ("Table", some "is_row")) (x := "is_row") (q := "Table.is_row") (st := sIsRow) rfl
  have bMr : Binds K fdMr ["self", "thing"] [] := FMr.binds fun _ _ _ _ _ _ us hl => match us, hl with | [_, _], _ => rfl
  have mMr : Meth K (He.ga K "Table") "is_row" (He.ma K (He.ga K "Table") "is_row") := He.meth_ok (c.fact 78 (f := .meth "Table" "is_row") rfl)
  obtain ⟨fdMc, FMc⟩ := fun_of c 39 (p := ("Table", some "clash")) (x := "clash") (q := "Table.clash") (st := sClash) rfl
  have bMc : Binds K fdMc ["self", "one", "other"] [] := FMc.binds fun _ _ _ _ _ _ us hl => match us, hl with | [_, _, _], _ => rfl
  have mMc : Meth K (He.ga K "Table") "clash" (He.ma K (He.ga K "Table") "clash") := He.meth_ok (c.fact 79 (f := .meth "Table" "clash") rfl)
  obtain ⟨fdMe, FMe⟩ := fun_of c 40 (p := ("Table", some "__eq__")) (x := "__eq__") (q := "Table.__eq__") (st := sEq) rfl
  have bMe : Binds K fdMe ["self", "other"] [] := FMe.binds fun _ _ _ _ _ _ us hl => match us, hl with | [_, _], _ => rfl
  have mMe : Meth K (He.ga K "Table") "__eq__" (He.ma K (He.ga K "Table") "__eq__") := He.meth_ok (c.fact 80 (f := .meth "Table" "__eq__") rfl)
  obtain ⟨fdTo, FTo⟩ := fun_of c 41 (p := ("Store", some "table_of")) (x := "table_of") (q := "Store.table_of") (st := sTableOf) rfl
  have bTo : Binds K fdTo ["self", "name"] [] := FTo.binds fun _ _ _ _ _ _ us hl => match us, hl with | [_, _], _ => rfl
  have mTo : Meth K (He.ga K "Store") "table_of" (He.ma K (He.ga K "Store") "table_of") := He.meth_ok (c.fact 81 (f := .meth "Store" "table_of") rfl)
  obtain ⟨fdRo, FRo⟩ := fun_of c 42 (p := ("Store", some "rows_of")) (x := "rows_of") (q := "Store.rows_of") (st := sRowsOf) rfl
  have bRo : Binds K fdRo ["self", "name"] [] := FRo.binds fun _ _ _ _ _ _ us hl => match us, hl with | [_, _], _ => rfl
  have mRo : Meth K (He.ga K "Store") "rows_of" (He.ma K (He.ga K "Store") "rows_of") := He.meth_ok (c.fact 82 (f := .meth "Store" "rows_of") rfl)
  obtain ⟨fdIc, FIc⟩ := fun_of c 43 (p := ("Store", some "is_change")) (x := "is_change") (q := "Store.is_change") (st := sIsChange) rfl
  have bIc : Binds K fdIc ["self", "thing"] [] := FIc.binds fun _ _ _ _ _ _ us hl => match us, hl with | [_, _], _ => rfl
  have mIc : Meth K (He.ga K "Store") "is_change" (He.ma K (He.ga K "Store") "is_change") := He.meth_ok (c.fact 83 (f := .meth "Store" "is_change") rfl)
  obtain ⟨fdIp, FIp⟩ := fun_of c 44 (p := ("Store", some "is_possible")) (x := "is_possible") (q := "Store.is_possible") (st := sIsPossible) rfl
  have bIp : Binds K fdIp ["self", "change"] [] := FIp.binds fun _ _ _ _ _ _ us hl => match us, hl with | [_, _], _ => rfl
  have mIp : Meth K (He.ga K "Store") "is_possible" (He.ma K (He.ga K "Store") "is_possible") := He.meth_ok (c.fact 84 (f := .meth "Store" "is_possible") rfl)
  obtain ⟨fdWa, FWa⟩ := fun_of c 45 (p := ("Store", some "walk")) (x := "walk") (q := "Store.walk") (st := sWalk) rfl
  have bWa : Binds K fdWa ["self"] [] := FWa.binds fun _ _ _ _ _ _ us hl => match us, hl with | [_], _ => rfl
  have mWa : Meth K (He.ga K "Store") "walk" (He.ma K (He.ga K "Store") "walk") := He.meth_ok (c.fact 85 (f := .meth "Store" "walk") rfl)
  obtain ⟨fdLe, FLe⟩ := fun_of c 46 (p := ("Store", some "__len__")) (x := "__len__") (q := "Store.__len__") (st := sSLen) rfl
  have bLe : Binds K fdLe ["self"] [] := FLe.binds fun _ _ _ _ _ _ us hl => match us, hl with | [_], _ => rfl
  have mLe : Meth K (He.ga K "Store") "__len__" (He.ma K (He.ga K "Store") "__len__") := He.meth_ok (c.fact 86 (f := .meth "Store" "__len__") rfl)
  obtain ⟨fdHa, FHa⟩ := fun_of c 47 (p := ("Store", some "__contains__")) (x := "__contains__") (q := "Store.__contains__") (st := sSHas) rfl
  have bHa : Binds K fdHa ["self", "thing"] [] := FHa.binds fun _ _ _ _ _ _ us hl => match us, hl with | [_, _], _ => rfl
  have mHa : Meth K (He.ga K "Store") "__contains__" (He.ma K (He.ga K "Store") "__contains__") := He.meth_ok (c.fact 87 (f := .meth "Store" "__contains__") rfl)
  obtain ⟨fdXc, FXc⟩ := fun_of c 48 (p := ("InvalidChange", some "__init__")) (x := "__init__") (q := "InvalidChange.__init__") (st := Vk.sIC) rfl
  have bXc : Binds K fdXc ["self", "change"] [] := FXc.binds fun _ _ _ _ _ _ us hl => match us, hl with | [_, _], _ => rfl
  have mXc : Meth K (He.ga K "InvalidChange") "__init__" (He.ma K (He.ga K "InvalidChange") "__init__") := He.meth_ok (c.fact 88 (f := .meth "InvalidChange" "__init__") rfl)
  obtain ⟨fdXu, FXu⟩ := fun_of c 49 (p := ("UnknownTable", some "__init__")) (x := "__init__") (q := "UnknownTable.__init__") (st := Vk.sIU) rfl
  have bXu : Binds K fdXu ["self", "name"] [] := FXu.binds fun _ _ _ _ _ _ us hl => match us, hl with | [_, _], _ => rfl
  have mXu : Meth K (He.ga K "UnknownTable") "__init__" (He.ma K (He.ga K "UnknownTable") "__init__") := He.meth_ok (c.fact 89 (f := .meth "UnknownTable" "__init__") rfl)
  obtain ⟨fdDo, FDo⟩ := fun_of c 50 (p := ("Store", some "do")) (x := "do") (q := "Store.do") (st := sDo) rfl
  obtain ⟨fdSi, FSi⟩ := fun_of c 51 (p := ("Store", some "__init__")) (x := "__init__") (q := "Store.__init__") (st := sSInit) rfl
  have mDo : Meth K (aS K) "do" (He.ma K (aS K) "do") := He.meth_ok (c.fact 90 (f := .meth "Store" "do") rfl)
  obtain ⟨fdG, FG⟩ := fnAt_ok (x := "columns") (q := "Table.columns") (st := sColumns) eG z4
  have bG : Binds K fdG ["self"] [] := FG.binds fun _ _ _ _ _ _ us hl => match us, hl with | [_], _ => rfl
  have pp : PropOf K (aT K) "columns" (pA K) (gA K) := ⟨He.eqO_ok z6, of_decide_eq_true z7, of_decide_eq_true z8, recB_ok z9⟩
  obtain ⟨fdT, FT⟩ := fnAt_ok (x := "tables") (q := "Store.tables") (st := sSTables) eB z5
  have bT : Binds K fdT ["self"] [] := FT.binds fun _ _ _ _ _ _ us hl => match us, hl with | [_], _ => rfl
  have pq : PropOf K (aS K) "tables" (pB K) (gB K) := ⟨He.eqO_ok z10, of_decide_eq_true z11, of_decide_eq_true z12, recB_ok z13⟩
  obtain ⟨fdI, FI⟩ := He.DefD.funD (d := dInit) eI z1
  have FI : FunD K "__init__" "Table.__init__" (defArgs sInit) (defBody sInit) (defScope sInit) [.ref (d0 K), .ref (d1 K)] [] (He.ma K (aT K) "__init__") fdI := FI
  obtain ⟨ds0, v0, bI⟩ := FI.binds1 (ps := ["self", "name", "names", "numbers", "key"]) 5 2 (by simp) rfl fun T kV doc pm an cdv ct us its l1 l2 => match us, its, l1, l2 with | [_, _, _, _, _], [_, _], _, _ => ⟨_, rfl, rfl⟩
  cases v0
  obtain ⟨ds1, v1, bI1⟩ := FI.binds1 (ps := ["self", "name", "names", "numbers", "key"]) 3 0 (by simp) rfl fun T kV doc pm an cdv ct us its l1 l2 => match us, its, l1, l2 with | [_, _, _], [_, _], _, _ => ⟨_, rfl, rfl⟩
  have fr : ∀ {x : Str}, He.Fa.ok K (.free x) = true → mg x = none := fun c => He.free_ok X G c
  have TA : TxtA K mg := ⟨fr (c.fact 56 (f := .free "list") rfl), fr (c.fact 52 (f := .free "len") rfl), fr (c.fact 57 (f := .free "range") rfl), fr (c.fact 51 (f := .free "tuple") rfl)⟩
  have TL : TxtL K mg (He.ga K "_law_draw") (He.ga K "_law_pick") := ⟨TA, cD.g, cD.k, cP.g, cP.k⟩
  have TP : TxtP K mg (He.ga K "is_name") (He.ga K "_are_names") := ⟨fr (c.fact 47 (f := .free "isinstance") rfl), fr (c.fact 48 (f := .free "int") rfl), fr (c.fact 49 (f := .free "bool") rfl), fr (c.fact 50 (f := .free "str") rfl), fr (c.fact 51 (f := .free "tuple") rfl), fr (c.fact 52 (f := .free "len") rfl), fr (c.fact 53 (f := .free "all") rfl), fr (c.fact 55 (f := .free "set") rfl), He.int_ok X G (c.fact 66 (f := .int "_LONGEST_NAME" 8) rfl), He.int_ok X G (c.fact 67 (f := .int "_MOST_COLUMNS" 2) rfl), cNm.g, cNm.k, cNs.g, cNs.k⟩
  obtain ⟨x1, x2, x3, x4⟩ := He.exc_ok (c.fact 93 (f := .exc "InvalidTable") rfl)
  obtain ⟨y1, y2, y3, y4⟩ := He.exc_ok (c.fact 94 (f := .exc "InvalidStore") rfl)
  have gT := He.glo_ok X G (c.fact 38 (f := .glo "Table") rfl)
  have gS := He.glo_ok X G (c.fact 39 (f := .glo "Store") rfl)
  have gI := He.glo_ok X G (c.fact 40 (f := .glo "InvalidTable") rfl)
  have gZ := He.glo_ok X G (c.fact 41 (f := .glo "InvalidStore") rfl)
  have gTE := He.glo_ok X G (c.fact 42 (f := .glo "TurnError") rfl)
  have gX := He.glo_ok X G (c.fact 43 (f := .glo "InvalidChange") rfl)
  have gU := He.glo_ok X G (c.fact 44 (f := .glo "UnknownTable") rfl)
  have gUn := He.glo_ok X G (c.fact 45 (f := .glo "Unknown") rfl)
  have gL := He.glo_ok X G (c.fact 46 (f := .glo "_LENGTHS") rfl)
  have M := He.mkr_ok (c.fact 91 (f := .mkr "Table") rfl)
  have MS := He.mkr_ok (c.fact 92 (f := .mkr "Store") rfl)
  have TT : TxtT K mg (aT K) (aI K) (He.ga K "_are_columns") (He.ga K "_is_key") := ⟨He.cls_ok (c.fact 68 (f := .cls "Table") rfl), He.noat_ok (c.fact 70 (f := .noat "Table" "name") rfl), He.noat_ok (c.fact 71 (f := .noat "Table" "names") rfl), He.noat_ok (c.fact 72 (f := .noat "Table" "numbers") rfl), He.noat_ok (c.fact 73 (f := .noat "Table" "key") rfl), gT, gI, x2, x1, x3, x4, cCo.g, cCo.k, cKe.g, cKe.k⟩
  have TS : TxtS K mg (aS K) (He.ma K (aS K) "table_of") (He.ma K (aS K) "rows_of") (He.ma K (aS K) "is_change") (He.ma K (aS K) "is_possible") := ⟨He.cls_ok (c.fact 69 (f := .cls "Store") rfl), He.noat_ok (c.fact 74 (f := .noat "Store" "_tables") rfl), He.noat_ok (c.fact 75 (f := .noat "Store" "_rows") rfl), gS, mTo, mRo, mIc, mIp⟩
  have kT : ∀ t : Tr, PySem.W.kitOne K (.type (tyOf t)) (.ref (aT K)) = some false := fun t => of_decide_eq_true (tyNames_all z19 t)
  have IO : IsO K (aT K) := ⟨of_decide_eq_true z14, of_decide_eq_true z15, of_decide_eq_true z16, of_decide_eq_true z17, of_decide_eq_true z18⟩
  have TO : TxtO K (aT K) := ⟨of_decide_eq_true z14, of_decide_eq_true z15, of_decide_eq_true z16, of_decide_eq_true z17, of_decide_eq_true z18, kT⟩
  have TZ : TxtZ K mg (aZ K) := ⟨gZ, y2, y1, y3, y4⟩
  have xX := Vk.xcB_ok z20
  have xU := Vk.xcB_ok z21
  have bX := Vk.baB_ok gTE z22
  have bU := Vk.baB_ok gUn z23
  have noX : PySem.W.findIn K (.ref (aX K)) "change" = some none := He.eqO_ok (c.fact 76 (f := .noat "InvalidChange" "change") rfl)
  have noU : PySem.W.findIn K (.ref (aU K)) "name" = some none := He.eqO_ok (c.fact 77 (f := .noat "UnknownTable" "name") rfl)
  have UX : XcT K mg "InvalidChange" (aX K) (He.ma K (aX K) "__init__") "ValueError.__new__" Vk.veT "change" := ⟨xX, mXc.at_, beq_iff_eq.mp mXc.fn, gX, noX⟩
  have UU : XcT K mg "UnknownTable" (aU K) (He.ma K (aU K) "__init__") "LookupError.__new__" Vk.keT "name" := ⟨xU, mXu.at_, beq_iff_eq.mp mXu.fn, gU, noU⟩
  have eX : ExcC K (aX K) := ⟨xX.ga, xX.gg, xX.exC, xX.hd, xX.ca, of_decide_eq_true z15, of_decide_eq_true z16, xX.mo⟩
  have eZ : ExcC K (aZ K) := ⟨of_decide_eq_true z26, of_decide_eq_true z27, y3, z28, of_decide_eq_true z29, of_decide_eq_true z15, of_decide_eq_true z16, of_decide_eq_true z30⟩
  have TH : TxtH K mg (aX K) (He.ga K "TurnError") := ⟨gTE, fr (c.fact 65 (f := .free "ValueError") rfl), gX, eX, noX, He.exm_ok (c.fact 95 (f := .exm "InvalidChange" "InvalidChange" true) rfl), of_decide_eq_true z24, of_decide_eq_true z25⟩
  have TY : TxtY K mg (aZ K) (He.ga K "TurnError") := ⟨gTE, fr (c.fact 65 (f := .free "ValueError") rfl), eZ, He.exm_ok (c.fact 96 (f := .exm "InvalidStore" "InvalidStore" true) rfl), of_decide_eq_true z31, of_decide_eq_true z32⟩
  have rp := fr (c.fact 58 (f := .free "repr") rfl)
  have en := fr (c.fact 59 (f := .free "enumerate") rfl)
  have an := fr (c.fact 54 (f := .free "any") rfl)
  have al := fr (c.fact 53 (f := .free "all") rfl)
  have tu := fr (c.fact 51 (f := .free "tuple") rfl)
  have so := fr (c.fact 63 (f := .free "sorted") rfl)
  have su := fr (c.fact 62 (f := .free "sum") rfl)
  have mi := fr (c.fact 60 (f := .free "min") rfl)
  have ma := fr (c.fact 61 (f := .free "max") rfl)
  have le := fr (c.fact 52 (f := .free "len") rfl)
  have zp := fr (c.fact 64 (f := .free "zip") rfl)
  have it := fr (c.fact 48 (f := .free "int") rfl)
  have rg := fr (c.fact 57 (f := .free "range") rfl)
  obtain ⟨es, en', KD⟩ := He.dicW_ok eD
  have lens := lens_ok z33
  obtain ⟨uM, cv⟩ := mostB_ok z34
  have cr : ClX.CRead K (aS K) (.type "type") := ⟨z35, of_decide_eq_true z⟩
  have hz : f = He.ga K "law" := by
    have e := hf.symm.trans cZ.g
    injection e with e
    injection e
  subst hz
  refine ⟨fdZ, fun s v => ?_, fun base kb nb => ?_⟩
  · obtain ⟨oc, od, kV, doc, pm, an, cdv, ct, osl, rfl, lk, hcd⟩ := FZ.ex
    exact .of_eq rfl
  have GS := ok_source (P := P) (w := w) (base := base) FS TA
  have GD := ok_draw (P := P) (w := w) (mg := mg) (base := base) FD
  have GP := ok_pick FP TL GD bD
  have GNm := ok_isname (P := P) (w := w) (base := base) FNm TP
  have GNu := ok_isnum (P := P) (w := w) (base := base) FNu TP
  have GNs := ok_arenames FNs TP GNm bNm
  have GCo := ok_arecols FCo TP GNs bNs
  have GKe := ok_iskey (P := P) (w := w) (base := base) FKe TP
  have GI := ok_init FI TP TT GNm bNm GCo bCo GKe bKe
  have GMr := ok_isrow FMr TP TT GNm bNm GNu cNu.g cNu.k bNu
  have GG := ok_columns (P := P) (w := w) (base := base) FG TT
  have GMc := ok_clash FMc TP TT en pp GG bG
  have GMe := ok_eq (P := P) (w := w) (base := base) FMe TP TT TO
  have GTn := ok_named (P := P) (w := w) (base := base) FTn TT
  have GTk := ok_taken (P := P) (w := w) (mg := mg) (base := base) FTk
  have GCl := ok_clashes FCl TT an mMc GMc bMc
  have GPi := ok_possin FPi an al cTk GTk bTk cCl GCl bCl
  have GRa := ok_after FRa tu so cTk GTk bTk
  have GPt := ok_parts FPt TP TT KD gL lens cTn GTn bTn
  have GCf := ok_changeof FCf TP TT cPt GPt bPt mMr GMr bMr
  have GXc := Vk.ok_initC (P := P) (w := w) (base := base) FXc xX bX noX
  have GXu := Vk.ok_initU (P := P) (w := w) (base := base) FXu xU bU noU
  have GTo := ok_tableof FTo TS cTn GTn bTn UU GXu bXu
  have GRo := ok_rowsof FRo TS TT GTo bTo
  have GIc := ok_ischange FIc TS cCf GCf bCf
  have GIp := ok_ispossible FIp TS GIc bIc GTo bTo GRo bRo cPi GPi bPi UX GXc bXc
  have GDo := ok_do FDo TS tu GIc bIc GRo bRo GIp bIp cRa GRa bRa UX GXc bXc
  have GSi := ok_sinit (P := P) (w := w) (base := base) FSi TP TT IO TS cr cv
  have GSx := ok_sinitX (P := P) (w := w) (base := base) FSi TP TT TO TS cr cv TZ
  have GWa := ok_walk (P := P) (w := w) (base := base) FWa TS TT
  have GLe := ok_slen (P := P) (w := w) (base := base) FLe TS TT TP
  have GHa := ok_shas FHa TS TT TP cTn GTn bTn mMr GMr bMr
  have GT := ok_stables (P := P) (w := w) (base := base) (CT := aT K) FT TS
  have GLc := ok_columnsl FLc TL GD bD GP bP
  have GLa := ok_args FLa TL mi ma GD bD cLc GLc bLc
  have GW := ok_world FW TL GD bD GP bP cLa GLa bLa
  have GLm := ok_madet FLm TT M GI bI
  have GLs := ok_storel FLs le TS MS cLm GLm bLm GSi
  have GLr := ok_rowl FLr TL GP bP
  have GLn := ok_near FLn TL GD bD GP bP cLr GLr bLr
  have GLk := ok_keyl (P := P) (w := w) (mg := mg) (base := base) FLk
  have GLb := ok_barred FLb cLk GLk bLk
  have GLp := ok_possl FLp cLb GLb bLb
  have GLh := ok_changel FLh TL su GD bD GP bP cLn GLn bLn
  have GLf := ok_follow FLf cLp GLp bLp
  have GLt := ok_told (P := P) (w := w) (base := base) FLt tu so
  have GLo := ok_odd FLo TL GP bP
  have GDn := ok_done FDn TP TS TH mDo GDo
  have GIs := ok_isso FIs TP rp zp TS cLt GLt bLt GRo bRo mWa GWa bWa mHa.at_ (beq_iff_eq.mp mHa.fn) GHa bHa mLe.at_ (beq_iff_eq.mp mLe.fn) GLe bLe
  have GRw := ok_rowsofl (P := P) (w := w) (mg := mg) (base := base) FRw
  have GSg := ok_strange FSg TL GP bP cLr GLr bLr cRw GRw bRw
  have GCr := ok_callright FCr TL rp zp it GD bD GP bP cLh GLh bLh cLf GLf bLf cLo GLo bLo cDn GDn bDn cIs GIs bIs
  have GRf := ok_refused FRf TP TS TZ TY MS GSx
  have GMk := ok_making FMk TP TL TT TS rp M GP bP GI bI bI1 v1 (ktupB_ok z2) (ktupB_ok z3) MS GSx cRf GRf bRf pq GT bT cr cv
  have GFu := ok_full FFu TP TL TT TS rp M mDo GD bD GP bP GI bI MS GSx GRo bRo GIp bIp GDo mLe.at_ (beq_iff_eq.mp mLe.fn) GLe bLe
  exact ok_law FZ TP rg rp TT TS cS GS bS cFu GFu bFu cW GW bW cLs GLs bLs cLm GLm bLm cIs GIs bIs cMk GMk bMk cCr GCr bCr cSg GSg bSg mMe.at_ mMe.fn GMe bMe mHa.at_ (beq_iff_eq.mp mHa.fn) GHa bHa pq GT bT pp GG bG GTo bTo
end
end Vm
open PySem PySem.W PyProof.Rows in
set_option maxRecDepth 100000 in
set_option maxHeartbeats 0 in
theorem PySem.Challenge.cw_whatturns_k04_stores_through_many_change_holds : PySem.Challenge.rw_whatturns_k04_stores_through_many_change.Holds := by
  w_on; o_law; k_head; (case hw => w_witness2)
  k_fill
  refine Vm.walkG (l := PySem.Challenge.rw_whatturns_k04_stores_through_many_change) (n := 63) (k := 10) (x := "_law_script") (sp := Vm.spLaw) rfl (by decide) rfl ⟨rfl, by decide, by decide⟩ (fun w h Y => PySem.W.kIn_of Y) ?F (fun K H a ns short _ hS => ⟨a, ns, rfl, hS, short, fun _ => rfl⟩)
  case F =>
    intro w mg fa h KX G hmg
    refine Vm.all_of KX G ?says ?chk ?eI ?eG ?eB ?eD hmg
    case says =>
      show He.obsE Vm.faL Vm.fnL _ = He.valE Vm.fnL
      kernel_rfl
    case chk => kernel_rfl
    case eI => kernel_rfl
    case eG => kernel_rfl
    case eB => kernel_rfl
    case eD => kernel_rfl
