import PyProof.Rows.All
import Wide.All
import OpenK.AllK
import Wide.FinOn
import HandS.ForMost
import HandS.Conv
import HandS.More
import HandS.ForExc
import HandS.ExcInit
import HandS.ExcValue
import HandS.ExcIs
import KE.KExcIs
import HandS.IsInst
import HandS.ExcField
import HandS.TryMany
import HandS.ExcOwn
import HandS.HeadHook1
import PySem.Challenge.RW_whatturns_k01_errors
set_option Elab.async false
set_option linter.all false
set_option maxRecDepth 100000
set_option maxHeartbeats 4000000
namespace Vk
open PySem L2
/-! the text by places -/
def top (i : Nat) : Stmt := PySem.Challenge.pw_whatturns_k01_errors.main.body.getD i (.Pass ⟨0, 0, 0, 0⟩)
abbrev sSource : Stmt := top 21
abbrev sDraw : Stmt := top 22
abbrev sPick : Stmt := top 23
abbrev sPlain : Stmt := top 24
abbrev sValue : Stmt := top 25
/-- a source of draws stands at s: its list of numbers at l, the stirred number z, the count b -/
structure Src (H : Hp) (s l : Addr) (ms : List Int) (z b : Int) : Prop where
  hs : H s = some (.lst [.ref l, .int z, .int b])
  hl : H l = some (.lst (ms.map V.int))
  len : ms.length ≤ 63
theorem Src.ne {H : Hp} {s l : Addr} {ms : List Int} {z b : Int} (h : Src H s l ms z b) : s ≠ l := by
  intro e
  have h1 := h.hs
  rw [e, h.hl] at h1
  have h2 := Option.some.inj h1
  injection h2 with h3
  cases ms with
  | nil => cases h3
  | cons m r => 
    injection h3 with h4 _
    cases h4
/-- all but the source's two objects stands as before -/
def But (s l : Addr) (H H' : Hp) : Prop := ∀ b o, b ≠ s → b ≠ l → H b = some o → H' b = some o
theorem But.trans {s l : Addr} {H H1 H2 : Hp} (h1 : But s l H H1) (h2 : But s l H1 H2) : But s l H H2 :=
  fun b o n1 n2 e => h2 b o n1 n2 (h1 b o n1 n2 e)
theorem But.of_same {s l : Addr} {H H' : Hp} (h : Same H H') : But s l H H' := fun b o _ _ e => h b o e

def spSource (K : PySem.W.Frag) : Sp := fun vs H Q _ => ∃ (a : Addr) (ns : List Int), vs = [.ref a] ∧ SqL K H a (ns.map V.int) ∧ ns.length ≤ 63 ∧
  ∀ (H' : Hp) (s l : Addr) (ms : List Int) (z : Int), Same H H' → H s = none → H l = none → Src H' s l ms z 0 → Q (.ref s) H'
/-- one draw below many -/
def spDraw : Sp := fun vs H Q _ => ∃ (s l : Addr) (ms : List Int) (z b m : Int), vs = [.ref s, .int m] ∧ Src H s l ms z b ∧ 0 < m ∧ m ≤ 1000000 ∧ 0 ≤ b ∧ b < 1000000 ∧
  ∀ (H' : Hp) (ms' : List Int) (r : Int), But s l H H' → Src H' s l ms' z (b + 1) → 0 ≤ r → r < m → Q (.int r) H'

structure TxtA (K : PySem.W.Frag) (mg : Str → Option Value) : Prop where
  list : mg "list" = none
  len : mg "len" = none
  range : mg "range" = none
  tuple : mg "tuple" = none

theorem cut60 (ns : List Int) : cutV (ns.map V.int) none (some 60) = (ns.take 60).map V.int := by
  have e : HT.sIx (ns.map V.int).length (ns.map V.int).length (some 60) = min 60 ns.length := by
    have q := HT.sIx_nat (ns.map V.int).length (ns.map V.int).length 60
    rw [List.length_map] at q ⊢
    exact q
  unfold cutV
  rw [e]
  show ((ns.map V.int).drop 0).take (min 60 ns.length - 0) = _
  rw [List.drop_zero, Nat.sub_zero, ← List.map_take, List.take_eq_take_iff.mpr]
  omega
theorem map_ix {ns : List Int} {i : Nat} {y : V} (h : (ns.map V.int)[i]? = some y) : ∃ u, y = V.int u := by
  rw [List.getElem?_map] at h
  cases e : ns[i]? with
  | none => rw [e] at h; cases h
  | some u => rw [e] at h; exact ⟨u, (Option.some.inj h).symm⟩

theorem dpInts (K : PySem.W.Frag) (H : Hp) : ∀ ms : List Int, DpAll K H (ms.map V.int) (ms.map PyData.int)
  | [] => .nil
  | m :: r => .cons (.int m) (dpInts K H r)
theorem Src.but {H H' : Hp} {s l : Addr} {ms : List Int} {z b : Int} (h : Src H s l ms z b) (k : Same H H') : Src H' s l ms z b := ⟨k _ _ h.hs, k _ _ h.hl, h.len⟩
theorem layInts : ∀ ms : List Int, PyData.canLayAll0 (ms.map PyData.int) = true
  | [] => rfl
  | m :: r => by
    have h := layInts r
    simp only [List.map_cons, PyData.canLayAll0, PyData.canLay0, h, Bool.and_self]
theorem depthInts : ∀ ms : List Int, PyData.depthAll (ms.map PyData.int) = 0
  | [] => rfl
  | m :: r => by
    have h := depthInts r
    simp only [List.map_cons, PyData.depthAll, PyData.depth, h, Nat.max_self]
theorem shapedInts (ms : List Int) : SeqAt.shaped (.list (ms.map PyData.int)) = true := by
  unfold SeqAt.shaped
  simp only [PyData.canLay0, layInts ms, PyData.depth, depthInts ms]
  rfl
theorem seq0 (n : Nat) : seqIndex? 0 (n + 1) = some 0 := (ixN_seq (n := n + 1) (i := 0) (j := 0) (by unfold ixN; rw [if_pos (by omega), if_pos (by omega)]; rfl)).1
theorem But.upd {s l a : Addr} {H H' : Hp} {o : HO} (h : But s l H H') (e : a = s ∨ a = l) : But s l H (upd H' a o) := fun b u n1 n2 q => by
  rw [upd_ne (fun z => by rcases e with e | e
                          · exact n1 (z.trans e)
                          · exact n2 (z.trans e))]
  exact h b u n1 n2 q
theorem But.fresh {s l a : Addr} {H H' : Hp} {o : HO} (h : But s l H H') (e : H' a = none) : But s l H (L2.upd H' a o) := fun b u n1 n2 q => by
  have q' := h b u n1 n2 q
  rw [upd_ne (ne_of_none q' e)]
  exact q'

section
variable {P : Program} {w : World} {K : PySem.W.Frag} {mg : Str → Option Value} {base : Heap}
theorem scSource : FnScope ["_law_script", "_law_stirred", "_law_cell"] ["_law_script"] (defScope sSource) := ⟨rfl, rfl, rfl, by decide +kernel, rfl, by decide +kernel, by decide +kernel⟩
theorem ok_source {f : Addr} {fd : FuncData} (F : Fun K "_law_source" "_law_source" sSource f fd) (T : TxtA K mg) : FnOk P w K mg base CX0 1 f fd ["_law_script"] (spSource K) := by
  refine F.ok scSource (fun vs H Q E h => ?_) (fun cdv A outer s H vs Q E hr h => ?_)
  · obtain ⟨a, ns, rfl, _⟩ := h
    rfl
  · obtain ⟨a, ns, rfl, hS, hlen, k⟩ := h
    refine ⟨_, pss_cons (ps_set (i := 1) scSource.nd rfl (Or.inl rfl) pe_int)
      (pss_cons (ps_for PassesOwn.never rfl (pi_list (pe_slice sl_list (pv 0) po_none (po_some pe_int))) (pg_name (i := 2) scSource.nd rfl (Or.inl rfl))
        (pss_one (ps_set (i := 1) scSource.nd rfl (Or.inl rfl) (pe_op op_mod (pe_op op_add (pe_op op_add (pe_op op_mul (pv 1) pe_int) (pe_op op_mod (pv 2) pe_int)) pe_int) pe_int))))
      (pss_one (ps_ret (pe_lst (pa_cons (pe_callTy call_list_of (by rfl) T.list (by decide +kernel) (pa_cons (pe_slice sl_list (pv 0) po_none (po_some pe_int)) pa_nil)) (pa_cons (pv 1) (pa_cons pe_int pa_nil))))))), ?_⟩
    refine ⟨_, rfl, _, rfl, a, _, rfl, hS, fun p hp => ?_⟩
    rw [cut60] 
    have s1 : Same H (upd H p (.lst ((ns.take 60).map V.int))) := fun b o e => by
      rw [upd_ne (ne_of_none e hp)]
      exact e
    refine ⟨p, rfl, ⟨_, SqL.of upd_same⟩, for_list (K := K) (a := p) (xs := (ns.take 60).map V.int) (fun i σ H' => ∃ (z : Int) (v : Option V), σ = [some (.ref a), some (.int z), v] ∧ Same H H' ∧ H' p = some (.lst ((ns.take 60).map V.int)))
      ⟨_, _, rfl, s1, upd_same⟩ (fun i σ H' _ ⟨_, _, _, _, e⟩ => SqL.of e) ?_ ?_⟩
    · rintro i y σ H' hi ⟨z, v, rfl, s2, e2⟩
      obtain ⟨u, rfl⟩ := map_ix hi
      refine ⟨_, rfl, _, _, rfl, rfl, .inr (by decide), _, rfl, _, _, rfl, rfl, (by show (0 : Int) < 2147483563; decide), _, _, rfl, rfl, _, _, rfl, rfl, _, _, rfl, rfl, (by show (0 : Int) < 2147483629; decide), ?_⟩
      exact ⟨_, _, rfl, s2, e2⟩
    · rintro σ H' ⟨z, v, rfl, s2, e2⟩
      refine ⟨_, rfl, _, rfl, a, _, rfl, s2.seq hS, fun q hq => ?_⟩
      rw [cut60]
      refine ⟨q, _, rfl, .inl (SqL.of upd_same), fun l hl => ⟨_, rfl, (by show 3 ≤ sizeLine; decide), fun t ht => ?_⟩⟩
      have nq : l ≠ q := fun e => by
        rw [e, upd_same] at hl
        cases hl
      have nt : t ≠ l := fun e => by
        rw [e, upd_same] at ht
        cases ht
      have hl0 : H' l = none := by rw [← hl, upd_ne nq]
      have ht0 : upd H' q (.lst ((ns.take 60).map V.int)) t = none := by rw [← ht, upd_ne nt]
      have ntq : t ≠ q := fun e => by
        rw [e, upd_same] at ht0
        cases ht0
      have ht1 : H' t = none := by rw [← ht0, upd_ne ntq]
      refine k _ t l (ns.take 60) z (fun b o e => ?_) (s2.free ht1) (s2.free hl0) ⟨upd_same, ?_, ?_⟩
      · have e' := s2 b o e
        rw [upd_ne (ne_of_none e' ht1), upd_ne (ne_of_none e' hl0), upd_ne (ne_of_none e' hq)]
        exact e'
      · rw [upd_ne nt.symm, upd_same]
      · rw [List.length_take]
        omega
theorem scDraw : FnScope ["_law_source_here", "_law_many", "_law_mixed", "_law_cell"] ["_law_source_here", "_law_many"] (defScope sDraw) := ⟨rfl, rfl, rfl, by decide +kernel, rfl, by decide +kernel, by decide +kernel⟩
theorem ok_draw {f : Addr} {fd : FuncData} (F : Fun K "_law_draw" "_law_draw" sDraw f fd) : FnOk P w K mg base CX0 1 f fd ["_law_source_here", "_law_many"] spDraw := by
  refine F.ok scDraw (fun vs H Q E h => ?_) (fun cdv A outer s H vs Q E hr h => ?_)
  · obtain ⟨s, l, ms, z, b, m, rfl, _⟩ := h
    rfl
  · obtain ⟨a, l, ms, z, b, m, rfl, hs, m0, m1, b0, b1, k⟩ := h
    refine ⟨_, pss_cons (ps_asg (pe_op op_add (pe_ix ix_list (pv 0) pe_int (fun _ _ => rfl)) pe_int) (pg_sub (pv 0) pe_int set_list))
      (pss_cons (ps_set (i := 2) scDraw.nd rfl (Or.inl rfl) (pe_op op_add (pe_ix ix_list (pv 0) pe_int (fun _ _ => rfl)) (pe_op op_mul (pe_op op_mul pe_int (pe_ix ix_list (pv 0) pe_int (fun _ _ => rfl))) (pe_ix ix_list (pv 0) pe_int (fun _ _ => rfl)))))
      (pss_cons (ps_if (pt_cmpR (op_neD hr.units) (pe_ix ix_list (pv 0) pe_int (fun _ _ => rfl)) (pe_lst pa_nil) (nomark _))
        (pss_cons (ps_set (i := 3) scDraw.nd rfl (Or.inl rfl) (pe_bm PySem.F.plainAttrs_list PySem.F.slot_list_pop PySem.F.type_list_pop mt_popAt (pe_ix ix_list (pv 0) pe_int (fun _ _ => rfl)) (pa_cons pe_int pa_nil)))
        (pss_cons (ps_if (pt_cmpR op_ge (pv 3) (pe_op op_pow pe_int pe_int) (nomark _))
          (pss_cons (ps_expr (pe_bm PySem.F.plainAttrs_list PySem.F.slot_list_insert PySem.F.type_list_insert mt_insert (pe_ix ix_list (pv 0) pe_int (fun _ _ => rfl)) (pa_cons pe_int (pa_cons (pe_op op_fdiv (pv 3) (pv 1)) pa_nil))))
          (pss_one (ps_ret (pe_op op_mod (pv 3) (pv 1))))) pss_nil)
        (pss_one (ps_set (i := 2) scDraw.nd rfl (Or.inl rfl) (pe_op op_add (pv 2) (pv 3))))))
        pss_nil)
      (pss_cons (ps_set (i := 2) scDraw.nd rfl (Or.inl rfl) (pe_op op_mod (pe_op op_mul (pe_op op_mod (pv 2) pe_int) pe_int) pe_int))
      (pss_cons (ps_set (i := 2) scDraw.nd rfl (Or.inl rfl) (pe_op op_mod (pe_op op_add (pe_op op_add (pe_op op_mul (pv 2) (pv 2)) (pe_op op_mul pe_int (pv 2))) pe_int) pe_int))
      (pss_one (ps_ret (pe_op op_mod (pe_op op_fdiv (pe_op op_mod (pe_op op_mul (pv 2) pe_int) pe_int) pe_int) (pv 1)))))))), ?_⟩
    have hal := hs.ne
    refine ⟨_, rfl, _, _, _, _, rfl, rfl, SqL.of hs.hs, rfl, _, _, rfl, rfl, _, rfl, _, _, _, _, rfl, rfl, hs.hs, rfl, ?_⟩
    show tSeq _ _ _ _ (upd H a (.lst [.ref l, .int z, .int (b + 1)]))
    generalize hH1 : upd H a (.lst [.ref l, .int z, .int (b + 1)]) = H1
    have hs1 : Src H1 a l ms z (b + 1) := by
      rw [← hH1]
      exact ⟨upd_same, by rw [upd_ne hal.symm]; exact hs.hl, hs.len⟩
    have k1 : But a l H H1 := by
      rw [← hH1]
      exact But.upd (fun b o _ _ e => e) (.inl rfl)
    refine ⟨_, rfl, _, _, _, _, rfl, rfl, SqL.of hs1.hs, rfl, _, rfl, _, _, _, _, rfl, rfl, SqL.of hs1.hs, rfl, _, _, rfl, rfl, .inl (by decide), _, rfl, _, _, _, _, rfl, rfl, SqL.of hs1.hs, rfl, _, _, rfl, rfl, .inr ⟨by omega, by omega⟩, _, _, rfl, rfl, ?_⟩
    refine ⟨_, rfl, _, _, _, _, rfl, rfl, SqL.of hs1.hs, rfl, Nat.zero_le _, fun p hp => ?_⟩
    have hs2 : Src (upd H1 p (.lst [])) a l ms z (b + 1) := hs1.but fun b o e => by
      rw [upd_ne (ne_of_none e hp)]
      exact e
    have k2 : But a l H (upd H1 p (.lst [])) := k1.fresh hp
    refine ⟨_, _, .lst (SqL.of hs2.hl) (dpInts K _ ms), .lst (SqL.of upd_same) .nil, shapedInts ms, rfl, _, rfl, ?_⟩
    generalize upd H1 p (.lst []) = H2 at hs2 k2 ⊢
    cases ms with
    | nil =>
      refine iteF ?_
      refine ⟨_, rfl, _, _, rfl, rfl, (by show (0 : Int) < 2147483563; decide), _, _, rfl, rfl, .inr (by decide), _, _, rfl, rfl, (by show (0 : Int) < 2147483647; decide), ?_⟩
      refine ⟨_, rfl, _, rfl, _, _, rfl, rfl, .inl ⟨?_, ?_⟩, _, rfl, _, _, rfl, rfl, .inl (by decide), _, _, rfl, rfl, _, _, rfl, rfl, _, _, rfl, rfl, (by show (0 : Int) < 2147483587; decide), ?_⟩
      · omega
      · omega
      refine ⟨_, rfl, _, _, rfl, rfl, .inr (by decide), _, _, rfl, rfl, (by show (0 : Int) < 2147483629; decide), _, _, rfl, rfl, ⟨by decide, by decide⟩, _, rfl, _, _, rfl, rfl, m0, ?_⟩
      exact k _ _ _ k2 hs2 (Int.emod_nonneg _ (by omega)) (Int.emod_lt_of_pos _ m0)
    | cons c r =>
      have hr : r.length + 1 ≤ 63 := hs2.len
      refine iteT ?_
      refine ⟨_, rfl, _, _, _, _, rfl, rfl, SqL.of hs2.hs, rfl, .inl ⟨rfl, _, SqL.of hs2.hl⟩, l, _, 0, 0, .int c, rfl, rfl, hs2.hl, by decide, by decide, seq0 _, rfl, ?_⟩
      have hs3 : Src (upd H2 l (.lst (r.map V.int))) a l r z (b + 1) := ⟨by rw [upd_ne hal]; exact hs2.hs, upd_same, by omega⟩
      have k3 : But a l H (upd H2 l (.lst (r.map V.int))) := k2.upd (.inr rfl)
      show tSeq _ _ _ _ (upd H2 l (.lst (r.map V.int)))
      generalize upd H2 l (.lst (r.map V.int)) = H3 at hs3 k3 ⊢
      refine ⟨_, rfl, _, _, rfl, rfl, ⟨by decide, by decide, by decide⟩, _, _, rfl, rfl, _, rfl, ?_⟩
      refine ite2 (fun _ => ?_) (fun _ => ?_)
      · refine ⟨_, rfl, _, _, _, _, rfl, rfl, SqL.of hs3.hs, rfl, .inl ⟨rfl, _, SqL.of hs3.hl⟩, _, rfl, _, rfl, _, _, rfl, rfl, ⟨m0, by omega⟩, l, _, _, _, rfl, rfl, hs3.hl, ?_, by decide, by decide, ?_⟩
        · rw [List.length_map]
          show r.length < 16777216
          omega
        refine ⟨_, rfl, _, rfl, _, _, rfl, rfl, m0, ?_⟩
        exact k _ (c / m :: r) _ (k3.upd (.inr rfl)) ⟨by rw [upd_ne hal]; exact hs3.hs, upd_same, hr⟩ (Int.emod_nonneg _ (by omega)) (Int.emod_lt_of_pos _ m0)
      · refine ⟨_, rfl, _, rfl, _, _, rfl, rfl, ?_⟩
        refine ⟨_, rfl, _, _, rfl, rfl, (by show (0 : Int) < 2147483563; decide), _, _, rfl, rfl, .inr (by decide), _, _, rfl, rfl, (by show (0 : Int) < 2147483647; decide), ?_⟩
        refine ⟨_, rfl, _, rfl, _, _, rfl, rfl, .inl ⟨?_, ?_⟩, _, rfl, _, _, rfl, rfl, .inl (by decide), _, _, rfl, rfl, _, _, rfl, rfl, _, _, rfl, rfl, (by show (0 : Int) < 2147483587; decide), ?_⟩
        · omega
        · omega
        refine ⟨_, rfl, _, _, rfl, rfl, .inr (by decide), _, _, rfl, rfl, (by show (0 : Int) < 2147483629; decide), _, _, rfl, rfl, ⟨by decide, by decide⟩, _, rfl, _, _, rfl, rfl, m0, ?_⟩
        exact k _ _ _ k3 hs3 (Int.emod_nonneg _ (by omega)) (Int.emod_lt_of_pos _ m0)
end
end Vk
namespace Vk
open PySem L2
/-! data that the law has drawn, over the abstract heap, with the text that repr gives -/
def keyText : Key → Str
  | .inl i => toString i
  | .inr z => reprText z
def keyFits : Key → Prop
  | .inl i => i.natAbs.log2 < 1920
  | .inr z => (reprText z).length ≤ sizeLine
def entryText (k v : Str) : Str := k ++ ": " ++ v
mutual
/-- v is data of the text x, at most n deep, its own objects at bs: none of them stood in H0 -/
inductive Dv (H0 H : Hp) : V → Str → Nat → List Addr → Prop
  | non {n : Nat} : Dv H0 H .non "None" n []
  | bl {n : Nat} (b : Bool) : Dv H0 H (.bl b) (if b then "True" else "False") n []
  | int {n : Nat} {i : Int} (h : i.natAbs.log2 < 1920) : Dv H0 H (.int i) (toString i) n []
  | str {n : Nat} {x : Str} (h : (reprText x).length ≤ sizeLine) : Dv H0 H (.str x) (reprText x) n []
  | lst {n : Nat} {a : Addr} {xs : List V} {ts : List Str} {bs : List Addr} (h0 : H0 a = none) (h : H a = some (.lst xs)) (r : DvAll H0 H xs ts n bs) (na : a ∉ bs) : Dv H0 H (.ref a) (listText ts) (n + 1) (a :: bs)
  | tup {n : Nat} {a : Addr} {xs : List V} {ts : List Str} {bs : List Addr} (h0 : H0 a = none) (h : H a = some (.tup xs)) (r : DvAll H0 H xs ts n bs) (na : a ∉ bs) : Dv H0 H (.ref a) (tupleText ts) (n + 1) (a :: bs)
  | dct {n : Nat} {a : Addr} {kvs : List (Key × V)} {ts : List Str} {bs : List Addr} (h0 : H0 a = none) (h : H a = some (.dK kvs)) (kf : ∀ p ∈ kvs, keyFits p.1) (r : DvAll H0 H (kvs.map (·.2)) ts n bs) (na : a ∉ bs) :
      Dv H0 H (.ref a) (dictText (List.zipWith entryText (kvs.map fun p => keyText p.1) ts)) (n + 1) (a :: bs)
inductive DvAll (H0 H : Hp) : List V → List Str → Nat → List Addr → Prop
  | nil {n : Nat} : DvAll H0 H [] [] n []
  | cons {n : Nat} {v : V} {vs : List V} {x : Str} {xs : List Str} {bs cs : List Addr} (h : Dv H0 H v x n bs) (r : DvAll H0 H vs xs n cs) : DvAll H0 H (v :: vs) (x :: xs) n (bs ++ cs)
end
mutual
theorem Dv.lvl {H0 H : Hp} : ∀ {v : V} {x : Str} {n m : Nat} {bs : List Addr}, Dv H0 H v x n bs → n ≤ m → Dv H0 H v x m bs
  | _, _, _, _, _, .non, _ => .non
  | _, _, _, _, _, .bl b, _ => .bl b
  | _, _, _, _, _, .int h, _ => .int h
  | _, _, _, _, _, .str h, _ => .str h
  | _, _, _, 0, _, .lst _ _ _ _, l => absurd l (by omega)
  | _, _, _, _ + 1, _, .lst h0 h r na, l => .lst h0 h (r.lvl (Nat.le_of_succ_le_succ l)) na
  | _, _, _, 0, _, .tup _ _ _ _, l => absurd l (by omega)
  | _, _, _, _ + 1, _, .tup h0 h r na, l => .tup h0 h (r.lvl (Nat.le_of_succ_le_succ l)) na
  | _, _, _, 0, _, .dct _ _ _ _ _, l => absurd l (by omega)
  | _, _, _, _ + 1, _, .dct h0 h kf r na, l => .dct h0 h kf (r.lvl (Nat.le_of_succ_le_succ l)) na
theorem DvAll.lvl {H0 H : Hp} : ∀ {v : List V} {x : List Str} {n m : Nat} {bs : List Addr}, DvAll H0 H v x n bs → n ≤ m → DvAll H0 H v x m bs
  | _, _, _, _, _, .nil, _ => .nil
  | _, _, _, _, _, .cons h r, l => .cons (h.lvl l) (r.lvl l)
end
mutual
theorem Dv.keep {H0 H H' : Hp} : ∀ {v : V} {x : Str} {n : Nat} {bs : List Addr}, Dv H0 H v x n bs → (∀ b ∈ bs, ∀ o, H b = some o → H' b = some o) → Dv H0 H' v x n bs
  | _, _, _, _, .non, _ => .non
  | _, _, _, _, .bl b, _ => .bl b
  | _, _, _, _, .int h, _ => .int h
  | _, _, _, _, .str h, _ => .str h
  | _, _, _, _, .lst h0 h r na, k => .lst h0 (k _ List.mem_cons_self _ h) (r.keep fun b hb => k b (List.mem_cons_of_mem _ hb)) na
  | _, _, _, _, .tup h0 h r na, k => .tup h0 (k _ List.mem_cons_self _ h) (r.keep fun b hb => k b (List.mem_cons_of_mem _ hb)) na
  | _, _, _, _, .dct h0 h kf r na, k => .dct h0 (k _ List.mem_cons_self _ h) kf (r.keep fun b hb => k b (List.mem_cons_of_mem _ hb)) na
theorem DvAll.keep {H0 H H' : Hp} : ∀ {v : List V} {x : List Str} {n : Nat} {bs : List Addr}, DvAll H0 H v x n bs → (∀ b ∈ bs, ∀ o, H b = some o → H' b = some o) → DvAll H0 H' v x n bs
  | _, _, _, _, .nil, _ => .nil
  | _, _, _, _, .cons h r, k => .cons (h.keep fun b hb => k b (List.mem_append_left _ hb)) (r.keep fun b hb => k b (List.mem_append_right _ hb))
end
mutual
/-- its objects are new -/
theorem Dv.new {H0 H : Hp} : ∀ {v : V} {x : Str} {n : Nat} {bs : List Addr}, Dv H0 H v x n bs → ∀ b ∈ bs, H0 b = none
  | _, _, _, _, .non => fun _ h => nomatch h
  | _, _, _, _, .bl b => fun _ h => nomatch h
  | _, _, _, _, .int h => fun _ h => nomatch h
  | _, _, _, _, .str h => fun _ h => nomatch h
  | _, _, _, _, .lst h0 h r na => fun b hb => (List.mem_cons.mp hb).elim (fun e => e ▸ h0) (DvAll.new r b)
  | _, _, _, _, .tup h0 h r na => fun b hb => (List.mem_cons.mp hb).elim (fun e => e ▸ h0) (DvAll.new r b)
  | _, _, _, _, .dct h0 h kf r na => fun b hb => (List.mem_cons.mp hb).elim (fun e => e ▸ h0) (DvAll.new r b)
theorem DvAll.new {H0 H : Hp} : ∀ {v : List V} {x : List Str} {n : Nat} {bs : List Addr}, DvAll H0 H v x n bs → ∀ b ∈ bs, H0 b = none
  | _, _, _, _, .nil => fun _ h => nomatch h
  | _, _, _, _, .cons h r => fun b hb => (List.mem_append.mp hb).elim (Dv.new h b) (DvAll.new r b)
end
mutual
/-- seen from an earlier heap -/
theorem Dv.from {H0 H1 H : Hp} (k : ∀ b, H1 b = none → H0 b = none) : ∀ {v : V} {x : Str} {n : Nat} {bs : List Addr}, Dv H1 H v x n bs → Dv H0 H v x n bs
  | _, _, _, _, .non => .non
  | _, _, _, _, .bl b => .bl b
  | _, _, _, _, .int h => .int h
  | _, _, _, _, .str h => .str h
  | _, _, _, _, .lst h0 h r na => .lst (k _ h0) h (DvAll.from k r) na
  | _, _, _, _, .tup h0 h r na => .tup (k _ h0) h (DvAll.from k r) na
  | _, _, _, _, .dct h0 h kf r na => .dct (k _ h0) h kf (DvAll.from k r) na
theorem DvAll.from {H0 H1 H : Hp} (k : ∀ b, H1 b = none → H0 b = none) : ∀ {v : List V} {x : List Str} {n : Nat} {bs : List Addr}, DvAll H1 H v x n bs → DvAll H0 H v x n bs
  | _, _, _, _, .nil => .nil
  | _, _, _, _, .cons h r => .cons (Dv.from k h) (DvAll.from k r)
end
mutual
/-- its objects stand -/
theorem Dv.there {H0 H : Hp} : ∀ {v : V} {x : Str} {n : Nat} {bs : List Addr}, Dv H0 H v x n bs → ∀ b ∈ bs, ∃ o, H b = some o
  | _, _, _, _, .non => fun _ h => nomatch h
  | _, _, _, _, .bl b => fun _ h => nomatch h
  | _, _, _, _, .int h => fun _ h => nomatch h
  | _, _, _, _, .str h => fun _ h => nomatch h
  | _, _, _, _, .lst h0 h r na => fun b hb => (List.mem_cons.mp hb).elim (fun e => ⟨_, e ▸ h⟩) (DvAll.there r b)
  | _, _, _, _, .tup h0 h r na => fun b hb => (List.mem_cons.mp hb).elim (fun e => ⟨_, e ▸ h⟩) (DvAll.there r b)
  | _, _, _, _, .dct h0 h kf r na => fun b hb => (List.mem_cons.mp hb).elim (fun e => ⟨_, e ▸ h⟩) (DvAll.there r b)
theorem DvAll.there {H0 H : Hp} : ∀ {v : List V} {x : List Str} {n : Nat} {bs : List Addr}, DvAll H0 H v x n bs → ∀ b ∈ bs, ∃ o, H b = some o
  | _, _, _, _, .nil => fun _ h => nomatch h
  | _, _, _, _, .cons h r => fun b hb => (List.mem_append.mp hb).elim (Dv.there h b) (DvAll.there r b)
end
theorem DvAll.length {H0 H : Hp} : ∀ {v : List V} {x : List Str} {n : Nat} {bs : List Addr}, DvAll H0 H v x n bs → v.length = x.length
  | _, _, _, _, .nil => rfl
  | _, _, _, _, .cons _ r => congrArg (· + 1) r.length
theorem DvAll.append {H0 H : Hp} : ∀ {v v' : List V} {x x' : List Str} {n : Nat} {bs cs : List Addr}, DvAll H0 H v x n bs → DvAll H0 H v' x' n cs → DvAll H0 H (v ++ v') (x ++ x') n (bs ++ cs)
  | _, _, _, _, _, _, _, .nil, s => s
  | _, _, _, _, _, _, _, .cons (bs := b1) (cs := b2) h r, s => by
    rw [List.append_assoc]
    exact .cons h (r.append s)

section
variable {X : Cx} {pins : List (Addr × Obj)} {σ : St} {H0 H : Hp} {s : Shared}
/-- keys and values of a dict's entries -/
theorem pairs_keys {P : Program} {w : World} {h : Heap} {bs : List Addr} {n : Nat} : ∀ {kvs : List (Key × V)} {vs : List (Key × Value)} {es : List DictEntry}, KV kvs vs → PySem.Pairs (mixKind P w) es vs → (∀ p ∈ kvs, keyFits p.1) →
    ReprAllK P w bs h n (es.map (·.key)) (kvs.map fun p => keyText p.1) ∧ es.map (·.val) = vs.map (·.2) ∧ Vals (kvs.map (·.2)) (vs.map (·.2))
  | _, _, _, .nil, .nil, _ => ⟨.nil, rfl, .nil⟩
  | (k, v) :: kvs, _, _, .cons (b := b) r rs, .cons e ev es, kf => by
    obtain ⟨h1, h2, h3⟩ := pairs_keys (h := h) (bs := bs) (n := n) rs es fun p hp => kf p (List.mem_cons_of_mem _ hp)
    obtain ⟨r1, r2⟩ := r
    refine ⟨.cons ?_ h1, by rw [List.map_cons, List.map_cons, h2, ev], .cons r2 h3⟩
    have hk := kf (k, v) List.mem_cons_self
    obtain ⟨b1, b2⟩ := b
    dsimp only at r1 e ⊢
    subst r1
    rcases keyIs_shape e with ⟨i, t, rfl, q⟩ | ⟨x, t, rfl, q⟩
    · rw [q]
      exact .of_is (ReprIs.int t hk) _ _ _
    · rw [q]
      exact .of_is (ReprIs.str x t hk) _ _ _
mutual
theorem Dv.repr (I : Inv X pins σ H s) : ∀ {v : V} {x : Str} {n : Nat} {bs : List Addr} {u : Value}, Dv H0 H v x n bs → RelV v u → ReprK X.prog X.w bs s.heap n u x
  | _, _, _, _, _, .non, r => by
    cases r
    exact .of_is ReprIs.none _ _ _
  | _, _, _, _, _, .bl b, r => by
    cases r
    exact .of_is (ReprIs.bool b) _ _ _
  | _, _, _, _, _, .int h, r => by
    obtain ⟨t, rfl⟩ := r
    exact .of_is (ReprIs.int t h) _ _ _
  | _, _, _, _, _, .str h, r => by
    obtain ⟨t, rfl⟩ := r
    exact .of_is (ReprIs.str _ t h) _ _ _
  | _, _, _, _, _, .lst h0 h rs na, r => by
    cases r
    obtain ⟨z, its, n', rv, e⟩ := I.hok _ _ h
    have q := DvAll.repr I rs rv
    cases its with
    | nil =>
      cases q
      have e2 : listText [] = "[]" := listText_nil
      rw [e2]
      exact ReprK.listEmpty e rfl rfl
    | cons y ys => exact ReprK.list e rfl rfl na (by simpa using q.length_eq) fun i y' e' => q.item i y' (by simpa using e')
  | _, _, _, _, _, .tup h0 h rs na, r => by
    cases r
    obtain ⟨z, its, rv, o, e, c, n', d⟩ := I.hok _ _ h
    exact ReprK.tuple e c d na (by simpa using DvAll.repr I rs rv)
  | _, _, _, _, _, .dct h0 h kf rs na, r => by
    cases r
    obtain ⟨z, hs, vs, kv, o, es, ep, e, ex, d, ko, ps, nd⟩ := I.hok _ _ h
    obtain ⟨q1, q2, q3⟩ := pairs_keys kv ps kf
    refine ReprK.dict e ex.1 d hs na (ReprEntriesK.of_two es.toList _ _ q1 ?_)
    rw [q2]
    exact DvAll.repr I rs q3
theorem DvAll.repr (I : Inv X pins σ H s) : ∀ {vs : List V} {xs : List Str} {n : Nat} {bs : List Addr} {us : List Value}, DvAll H0 H vs xs n bs → Vals vs us → ReprAllK X.prog X.w bs s.heap n us xs
  | _, _, _, _, _, .nil, .nil => .nil
  | _, _, _, _, _, .cons (bs := b1) (cs := b2) h rs, .cons r t => .cons ((Dv.repr I h r).more fun b hb => List.mem_append_left _ hb) ((DvAll.repr I rs t).more_le (fun b hb => List.mem_append_right _ hb) (Nat.le_refl _))
end
end
end Vk
namespace Vk
open PySem L2
section
variable {X : Cx}
/-- repr(data) -/
def rRepr : List V → Hp → VK → Prop := fun xs H Q => ∃ (H0 : Hp) (v : V) (x : Str) (n : Nat) (bs : List Addr), xs = [v] ∧ Dv H0 H v x n bs ∧ n ≤ 8 ∧ x.length ≤ sizeLine ∧ Q (.str x) H
theorem call_reprV (hg : X.A.guards = some []) (hu : X.A.units + 16 < cLine) : CallR X (.builtin "repr") rRepr := by
  intro pins s σ H xs us Q I r h
  obtain ⟨H0, v, x, n, bs, rfl, d, hn, hx, q⟩ := h
  obtain ⟨u, rfl, rv⟩ := vals1 r
  have fin : ∀ (h' : Heap) (t : Tok) (tk : Nat), (∀ b o, s.heap.get? b = some o → h'.get? b = some o) → EP X pins σ Q (.str x t) { s with heap := h', toks := tk } := fun h' t tk k => ⟨.str x, H, I.kept k, ⟨t, rfl⟩, q⟩
  cases d with
  | non =>
    cases rv
    exact PySem.P.repr_of_none (fin s.heap _ _ fun _ _ e => e)
  | bl b =>
    cases rv
    exact PySem.P.repr_of_bool (fin s.heap _ _ fun _ _ e => e)
  | int hi =>
    obtain ⟨t, rfl⟩ := rv
    exact PySem.P.repr_of_int hi (fin s.heap _ _ fun _ _ e => e)
  | str hz =>
    obtain ⟨t, rfl⟩ := rv
    exact PySem.P.repr_of_str (fin s.heap _ _ fun _ _ e => e) hz
  | lst h0 hl rs na =>
    cases rv
    obtain ⟨z, its, n', rv', e⟩ := I.hok _ _ hl
    have k := DvAll.repr I rs rv'
    refine call_repr_slot (by omega) ⟨_, e, rfl⟩ PySem.F.slot_list_repr.toG ?_
    cases its with
    | nil =>
      cases k
      exact call_list_repr_empty ⟨_, e, rfl⟩ e rfl ⟨_, _, rfl, fin s.heap _ _ fun _ _ q => q⟩
    | cons y ys =>
      exact call_list_reprK e rfl rfl na (by simpa using k.length_eq) (fun i y' e' => k.item i y' (by simpa using e')) (g := []) hg (fun b _ => Clear.nil b) (by show X.A.units + 1 + _ < _; omega) (fun _ _ q => q)
        (fun h' t tk kk => ⟨_, _, rfl, fin h' t tk kk⟩) hx
  | tup h0 hl rs na =>
    cases rv
    obtain ⟨z, its, rv', o, e, c, n', dd⟩ := I.hok _ _ hl
    have k := DvAll.repr I rs rv'
    exact call_repr_slot (by omega) ⟨_, e, c⟩ PySem.F.slot_tuple_repr
      (call_tuple_reprK e c dd na (by simpa using k) (g := []) hg (fun b _ => Clear.nil b) (by show X.A.units + 1 + _ < _; omega) (fun _ _ q => q) (fun h' t tk kk => ⟨_, _, rfl, fin h' t tk kk⟩) hx)
  | @dct n0 _ _ _ _ h0 hl kf rs na =>
    cases rv
    obtain ⟨z, hs, vs, kv, o, es, ep, e, ex, dd, ko, ps, nd⟩ := I.hok _ _ hl
    obtain ⟨q1, q2, q3⟩ := pairs_keys kv ps kf
    refine call_repr_slot (by omega) ⟨_, e, ex.1⟩ PySem.F.slot_dict_repr
      (call_dict_reprK (d := n0) e ex.1 dd hs na (ReprEntriesK.of_two es.toList _ _ q1 ?_) (g := []) hg (fun b _ => Clear.nil b) (by show X.A.units + 1 + _ < _; omega) (fun _ _ q => q) (fun h' t tk kk => ⟨_, _, rfl, fin h' t tk kk⟩) hx)
    rw [q2]
    exact DvAll.repr I rs q3
end
end Vk
namespace Vk
open PySem L2
/-- one of the items, by a draw -/
def spPick (K : PySem.W.Frag) : Sp := fun vs H Q _ => ∃ (s l p : Addr) (ms : List Int) (z b : Int) (xs : List V), vs = [.ref s, .ref p] ∧ Src H s l ms z b ∧ SqL K H p xs ∧ p ≠ s ∧ p ≠ l ∧ 0 < xs.length ∧ xs.length ≤ 1000 ∧ 0 ≤ b ∧ b < 1000000 ∧
  (∀ H', But s l H H' → SqL K H' p xs) ∧
  ∀ (H' : Hp) (ms' : List Int) (y : V), But s l H H' → Src H' s l ms' z (b + 1) → y ∈ xs → Q y H'
/-- flat data -/
def spPlain : Sp := fun vs H Q _ => ∃ (s l : Addr) (ms : List Int) (z b : Int), vs = [.ref s] ∧ Src H s l ms z b ∧ 0 ≤ b ∧ b < 900000 ∧
  ∀ (H' : Hp) (ms' : List Int) (b' : Int) (v : V) (x : Str) (bs : List Addr), But s l H H' → Src H' s l ms' z b' → b ≤ b' → b' ≤ b + 3 → Dv H H' v x 1 bs → x.length ≤ 100 → Q v H'
theorem farOk {i : Int} (h : i.natAbs < 10 ^ 40) : i.natAbs.log2 < 1920 ∧ (Str.ofString (toString i)).length ≤ 100 := by
  refine ⟨?_, ?_⟩
  · by_cases h0 : i.natAbs = 0
    · rw [h0]
      decide
    · exact (Nat.log2_lt h0).mpr (Nat.lt_of_lt_of_le h (by decide +kernel))
  · rw [ofString_length]
    have e := int_text_length_le10 (k := 40) (by decide) h
    omega
section
variable {X : Cx}
theorem op_mulS : OpR X (binaryOp .Mult) (fun x y H Q => ∃ (z : Str) (i : Int), x = .str z ∧ y = .int i ∧ z.length ≤ 16 ∧ 0 ≤ i ∧ i ≤ 1000 ∧ Q (.str (Txt.mul z i)) H) := by
  intro pins s σ H x y v u Q I rx ry h
  obtain ⟨z, i, rfl, rfl, h1, h2, h3, q⟩ := h
  obtain ⟨t, rfl⟩ := rx
  obtain ⟨t', rfl⟩ := ry
  exact PySem.SB.mul (PyProof.Rows.mulOk_of 16 1048576 (by omega) (by omega) (by omega) (by decide) (by decide)) fun t' k => ⟨.str (Txt.mul z i), H, I.tok _, ⟨t', rfl⟩, q⟩
end
structure TxtB (K : PySem.W.Frag) (mg : Str → Option Value) (fD fP fL fV : Addr) : Prop extends TxtA K mg where
  gD : mg "_law_draw" = some (.ref fD)
  kD : PySem.W.keepIn K (.ref fD) = true
  gP : mg "_law_pick" = some (.ref fP)
  kP : PySem.W.keepIn K (.ref fP) = true
  gL : mg "_law_plain" = some (.ref fL)
  kL : PySem.W.keepIn K (.ref fL) = true
  gV : mg "_law_value" = some (.ref fV)
  kV : PySem.W.keepIn K (.ref fV) = true
section
variable {P : Program} {w : World} {K : PySem.W.Frag} {mg : Str → Option Value} {base : Heap} {fD fP fL fV : Addr}
theorem scPick : FnScope ["_law_source_here", "_law_items"] ["_law_source_here", "_law_items"] (defScope sPick) := ⟨rfl, rfl, rfl, by decide +kernel, rfl, by decide +kernel, by decide +kernel⟩
theorem ok_pick {f : Addr} {fd fdD : FuncData} (F : Fun K "_law_pick" "_law_pick" sPick f fd) (T : TxtB K mg fD fP fL fV) (FD : Fun K "_law_draw" "_law_draw" sDraw fD fdD) (bD : Binds K fdD ["_law_source_here", "_law_many"] []) :
    FnOk P w K mg base CX0 2 f fd ["_law_source_here", "_law_items"] (spPick K) := by
  have GD : FnOk P w K mg base CX0 1 fD fdD ["_law_source_here", "_law_many"] spDraw := ok_draw FD
  refine F.ok scPick (fun vs H Q E h => ?_) (fun cdv A outer s H vs Q E hr h => ?_)
  · obtain ⟨s, l, p, ms, z, b, xs, rfl, _⟩ := h
    rfl
  · obtain ⟨a, l, p, ms, z, b, xs, rfl, hs, hp, pa, pl, x0, x1, b0, b1, st, k⟩ := h
    refine ⟨_, pss_one (ps_ret (pe_ix ix_list (pv 1) (pe_call GD hr rfl T.gD T.kD bD .nil pass0 (pa_cons (pv 0) (pa_cons (pe_callB call_len_seq (by rfl) T.len (by decide +kernel) (pa_cons (pv 1) pa_nil)) pa_nil))) (fun _ _ => rfl))), ?_⟩
    refine ⟨_, rfl, _, rfl, _, rfl, p, _, rfl, .inl hp, a, l, ms, z, b, xs.length, rfl, hs, by omega, by omega, b0, b1, fun H' ms' r k1 hs1 r0 r1 => ?_⟩
    obtain ⟨j, rfl⟩ : ∃ j : Nat, r = (j : Int) := ⟨r.toNat, by omega⟩
    have hj : j < xs.length := by omega
    exact ⟨p, xs, j, xs[j], rfl, rfl, st H' k1, atI_nat (List.getElem?_eq_getElem hj), k H' ms' _ k1 hs1 (List.getElem_mem hj)⟩
theorem scPlain : FnScope ["_law_source_here", "_law_far", "_law_some"] ["_law_source_here"] (defScope sPlain) := ⟨rfl, rfl, rfl, by decide +kernel, rfl, by decide +kernel, by decide +kernel⟩
theorem ok_plain {f : Addr} {fd fdD fdP : FuncData} (F : Fun K "_law_plain" "_law_plain" sPlain f fd) (T : TxtB K mg fD fP fL fV) (FD : Fun K "_law_draw" "_law_draw" sDraw fD fdD) (bD : Binds K fdD ["_law_source_here", "_law_many"] [])
    (FP : Fun K "_law_pick" "_law_pick" sPick fP fdP) (bP : Binds K fdP ["_law_source_here", "_law_items"] []) : FnOk P w K mg base CX0 3 f fd ["_law_source_here"] spPlain := by
  have GD : FnOk P w K mg base CX0 1 fD fdD ["_law_source_here", "_law_many"] spDraw := ok_draw FD
  have GP : FnOk P w K mg base CX0 2 fP fdP ["_law_source_here", "_law_items"] (spPick K) := ok_pick FP T FD bD
  refine F.ok scPlain (fun vs H Q E h => ?_) (fun cdv A outer s H vs Q E hr h => ?_)
  · obtain ⟨s, l, ms, z, b, rfl, _⟩ := h
    rfl
  · obtain ⟨a, l, ms, z, b, rfl, hs, b0, b1, k⟩ := h
    have hr1 : Room 1 _ := hr.mono (by decide)
    refine ⟨_, pss_cons (ps_set (i := 1) scPlain.nd rfl (Or.inl rfl) (pe_op op_add (pe_op op_mul (pe_call GD hr1 rfl T.gD T.kD bD .nil pass0 (pa_cons (pv 0) (pa_cons (pe_op op_pow pe_int pe_int) pa_nil))) (pe_op op_pow pe_int pe_int))
        (pe_call GD hr1 rfl T.gD T.kD bD .nil pass0 (pa_cons (pv 0) (pa_cons (pe_op op_pow pe_int pe_int) pa_nil)))))
      (pss_cons (ps_set (i := 2) scPlain.nd rfl (Or.inl rfl) (pe_lst (pa_cons pe_non (pa_cons pe_bl (pa_cons pe_bl (pa_cons pe_int (pa_cons pe_int (pa_cons (pe_un un_neg pe_int) (pa_cons (pv 1) (pa_cons (pe_op op_sub pe_int (pv 1))
        (pa_cons pe_str (pa_cons pe_str (pa_cons pe_str (pa_cons pe_str (pa_cons pe_str (pa_cons pe_str (pa_cons (pe_tup pa_nil) (pa_cons (pe_op op_mulS pe_str pe_int) pa_nil))))))))))))))))))
      (pss_one (ps_ret (pe_call GP hr rfl T.gP T.kP bP .nil pass0 (pa_cons (pv 0) (pa_cons (pv 2) pa_nil)))))), ?_⟩
    refine ⟨_, rfl, _, _, rfl, rfl, ⟨by decide, by decide, by decide⟩, a, l, ms, z, b, 10 ^ 6, rfl, hs, by decide, by decide, b0, by omega, fun H1 ms1 r1 k1 hs1 p1 q1 => ?_⟩
    refine ⟨_, _, rfl, rfl, ⟨by decide, by decide, by decide⟩, _, _, rfl, rfl, .inl ⟨by omega, by omega⟩, _, rfl, _, _, rfl, rfl, ⟨by decide, by decide, by decide⟩, a, l, ms1, z, b + 1, 10 ^ 6, rfl, hs1, by decide, by decide, by omega, by omega, fun H2 ms2 r2 k2 hs2 p2 q2 => ?_⟩
    refine ⟨_, _, rfl, rfl, ?_⟩
    have far0 : 0 ≤ r1 * 10 ^ (33 : Int).toNat + r2 := by
      have e : (10 : Int) ^ (33 : Int).toNat = 10 ^ 33 := rfl
      rw [e]
      omega
    have far1 : r1 * 10 ^ (33 : Int).toNat + r2 < 10 ^ 40 := by
      have e : (10 : Int) ^ (33 : Int).toNat = 10 ^ 33 := rfl
      rw [e]
      omega
    have k12 := k1.trans k2
    refine ⟨_, rfl, _, rfl, _, rfl, _, _, rfl, rfl, Nat.zero_le _, fun t ht => ⟨_, _, rfl, rfl, (by decide), (by decide), (by decide), (by show 16 ≤ sizeLine; decide), fun q hq => ?_⟩⟩
    refine ⟨_, rfl, _, rfl, ?_⟩
    have qt : q ≠ t := fun e => by rw [e, upd_same] at hq; cases hq
    have hq2 : H2 q = none := by
      rw [← hq, upd_ne qt]
    have qa : q ≠ a := fun e => by rw [e, hs2.hs] at hq2; cases hq2
    have ql : q ≠ l := fun e => by rw [e, hs2.hl] at hq2; cases hq2
    have ta : t ≠ a := fun e => by rw [e, hs2.hs] at ht; cases ht
    have tl : t ≠ l := fun e => by rw [e, hs2.hl] at ht; cases ht
    have none_of : ∀ {b : Addr}, b ≠ a → b ≠ l → H2 b = none → H b = none := fun {b} n1 n2 e => by
      cases z : H b with
      | none => rfl
      | some o =>
        rw [k12 b o n1 n2 z] at e
        cases e
    generalize hX : [V.non, V.bl true, V.bl false, V.int 0, V.int 1, (fun i => V.int (-i)) 1, (fun i j => V.int (i + j)) (r1 * 10 ^ Int.toNat 33) r2, (fun i j => V.int (i - j)) 0 (r1 * 10 ^ Int.toNat 33 + r2), V.str (Str.ofString ""),
          V.str (Str.ofString "ann"), V.str (Str.ofString "t"), V.str (Str.ofString "a b"), V.str (Str.ofString "A"), V.str (Str.ofString "\n"), V.ref t, V.str (Txt.mul (Str.ofString "x") 60)] = xs
    have hlen : xs.length = 16 := by rw [← hX]; rfl
    have s3 : Same H2 (upd (upd H2 t (.tup [])) q (.lst xs)) := fun b o e => by
      rw [upd_ne (ne_of_none e hq2), upd_ne (ne_of_none e ht)]
      exact e
    have k3 : But a l H (upd (upd H2 t (.tup [])) q (.lst xs)) := k12.trans (.of_same s3)
    have hs3 := hs2.but s3
    have eq3 : upd (upd H2 t (.tup [])) q (.lst xs) q = some (.lst xs) := upd_same
    have et3 : upd (upd H2 t (.tup [])) q (.lst xs) t = some (.tup []) := by rw [upd_ne qt.symm, upd_same]
    show spPick K [.ref a, .ref q] (upd (upd H2 t (.tup [])) q (.lst xs)) Q E0
    generalize upd (upd H2 t (.tup [])) q (.lst xs) = H3 at k3 hs3 eq3 et3 ⊢
    refine ⟨a, l, q, ms2, z, b + 1 + 1, xs, rfl, hs3, SqL.of eq3, qa, ql, by omega, by omega, by omega, by omega, fun H' k' => SqL.of (k' _ _ qa ql eq3), fun H4 ms4 y k4 hs4 hy => ?_⟩
    have k34 := k3.trans k4
    refine ?_
    have fin : ∀ (x : Str) (bs : List Addr), Dv H H4 y x 1 bs → x.length ≤ 100 → Q y H4 := fun x bs hd hx => k H4 ms4 _ y x bs k34 hs4 (by omega) (by omega) hd hx
    have fi : ∀ i : Int, y = .int i → i.natAbs < 10 ^ 40 → Q y H4 := fun i e hi => by
      subst e
      exact fin _ _ (.int (farOk hi).1) (farOk hi).2
    have fs : ∀ z : Str, y = .str z → (reprText z).length ≤ 100 → Q y H4 := fun z e hz => by
      subst e
      exact fin _ _ (.str (Nat.le_trans hz (by decide))) hz
    rw [← hX] at hy
    simp only [List.mem_cons, List.not_mem_nil, or_false] at hy
    rcases hy with e | e | e | e | e | e | e | e | e | e | e | e | e | e | e | e
    · subst e
      exact fin _ _ .non (by decide)
    · subst e
      exact fin _ _ (.bl true) (by decide)
    · subst e
      exact fin _ _ (.bl false) (by decide)
    · exact fi _ e (by decide)
    · exact fi _ e (by decide)
    · exact fi _ e (by decide)
    · exact fi _ e (by omega)
    · exact fi _ e (by omega)
    · exact fs _ e (by decide +kernel)
    · exact fs _ e (by decide +kernel)
    · exact fs _ e (by decide +kernel)
    · exact fs _ e (by decide +kernel)
    · exact fs _ e (by decide +kernel)
    · exact fs _ e (by decide +kernel)
    · subst e
      exact fin _ _ (.tup (none_of ta tl ht) (k4 _ _ ta tl et3) .nil (by simp)) (by decide +kernel)
    · exact fs _ e (by decide +kernel)
end
end Vk
namespace Vk
open PySem L2
def nb : Nat → Int
  | 0 => 4
  | n + 1 => 2 * nb n + 5
def tb : Nat → Nat
  | 0 => 100
  | n + 1 => 2 * tb n + 200
def lv : Nat → Nat
  | 0 => 1
  | n + 1 => lv n + 2
theorem nb_pos : ∀ n, 4 ≤ nb n
  | 0 => Int.le_refl _
  | n + 1 => by
    have h := nb_pos n
    show 4 ≤ 2 * nb n + 5
    omega
theorem tb_pos : ∀ n, 100 ≤ tb n
  | 0 => Nat.le_refl _
  | n + 1 => by
    have h := tb_pos n
    show 100 ≤ 2 * tb n + 200
    omega
theorem lv_pos : ∀ n, 1 ≤ lv n
  | 0 => Nat.le_refl _
  | n + 1 => by
    show 1 ≤ lv n + 2
    omega
/-- data, at most n deep -/
def spVal (n : Nat) : Sp := fun vs H Q _ => ∃ (s l : Addr) (ms : List Int) (z b : Int), vs = [.ref s, .int n] ∧ Src H s l ms z b ∧ 0 ≤ b ∧ b + nb n < 800000 ∧
  ∀ (H' : Hp) (ms' : List Int) (b' : Int) (v : V) (x : Str) (bs : List Addr), But s l H H' → Src H' s l ms' z b' → b ≤ b' → b' ≤ b + nb n → Dv H H' v x (lv n) bs → x.length ≤ tb n → Q v H'
theorem none_back {s l : Addr} {H H' : Hp} {ms ms' : List Int} {z b b' : Int} (h : Src H s l ms z b) (h' : Src H' s l ms' z b') (k : But s l H H') {c : Addr} (e : H' c = none) : H c = none := by
  cases q : H c with
  | none => rfl
  | some o =>
    by_cases h1 : c = s
    · rw [h1, h'.hs] at e
      cases e
    · by_cases h2 : c = l
      · rw [h2, h'.hl] at e
        cases e
      · rw [k c o h1 h2 q] at e
        cases e
theorem Src.none_ne {s l : Addr} {H : Hp} {ms : List Int} {z b : Int} (h : Src H s l ms z b) {c : Addr} (e : H c = none) : c ≠ s ∧ c ≠ l := by
  refine ⟨fun q => ?_, fun q => ?_⟩
  · rw [q, h.hs] at e
    cases e
  · rw [q, h.hl] at e
    cases e
theorem sum_le {M : Nat} : ∀ {ts : List Str}, (∀ t ∈ ts, t.length ≤ M) → (ts.map (·.length)).sum ≤ ts.length * M
  | [], _ => Nat.zero_le _
  | t :: r, h => by
    have h1 := h t List.mem_cons_self
    have h2 := sum_le (ts := r) fun t' ht => h t' (List.mem_cons_of_mem _ ht)
    rw [List.map_cons, List.sum_cons, List.length_cons, Nat.succ_mul]
    omega
theorem listText_le {M : Nat} {ts : List Str} (h : ∀ t ∈ ts, t.length ≤ M) (h2 : ts.length ≤ 2) : (listText ts).length ≤ 2 * M + 10 := by
  have e1 := sum_le h
  have e2 := textFrom_len_le ts 0 "["
  have e3 : ts.length * M ≤ 2 * M := Nat.mul_le_mul_right _ h2
  have e4 : (("[" : String) : Str).length = 1 := by decide +kernel
  have e5 : ((("]" : String) : Str)).length = 1 := by decide +kernel
  unfold listText
  rw [strLen_append]
  omega
theorem tupleText_le {M : Nat} {ts : List Str} (h : ∀ t ∈ ts, t.length ≤ M) (h2 : ts.length ≤ 2) : (tupleText ts).length ≤ 2 * M + 10 := by
  have e1 := sum_le h
  have e2 := StrLaws.join_length_le ", " ts
  have e3 : ts.length * M ≤ 2 * M := Nat.mul_le_mul_right _ h2
  have e4 : (("(" : String) : Str).length = 1 := by decide +kernel
  have e5 : (((if (ts.length == 1) = true then ",)" else ")" : String)) : Str).length ≤ 2 := by
    split <;> decide +kernel
  have e6 : ((", " : String) : Str).length = 2 := by decide +kernel
  unfold tupleText
  rw [strLen_append, strLen_append]
  rw [e6] at e2
  omega
theorem ite_ {c : Prop} [Decidable c] {A B : Prop} (h1 : c → A) (h2 : ¬ c → B) : if decide c = true then A else B := by
  by_cases h : c
  · rw [if_pos (decide_eq_true h)]
    exact h1 h
  · rw [if_neg (by simpa using h)]
    exact h2 h
section
variable {P : Program} {w : World} {K : PySem.W.Frag} {mg : Str → Option Value} {base : Heap} {fD fP fL fV : Addr}
theorem scValue : FnScope ["_law_source_here", "_law_deep", "_law_way", "_law_inner", "_law_k"] ["_law_source_here", "_law_deep"] (defScope sValue) := ⟨rfl, rfl, rfl, by decide +kernel, rfl, by decide +kernel, by decide +kernel⟩
theorem ok_step {fd fdD fdL : FuncData} (T : TxtB K mg fD fP fL fV) (F : Fun K "_law_value" "_law_value" sValue fV fd) (bV : Binds K fd ["_law_source_here", "_law_deep"] [])
    (FD : Fun K "_law_draw" "_law_draw" sDraw fD fdD) (bD : Binds K fdD ["_law_source_here", "_law_many"] [])
    (GL : FnOk P w K mg base CX0 3 fL fdL ["_law_source_here"] spPlain) (bL : Binds K fdL ["_law_source_here"] []) {j n : Nat} (hj : 3 ≤ j) {sp' : Sp} (GV : FnOk P w K mg base CX0 j fV fd ["_law_source_here", "_law_deep"] sp')
    (hn : n ≤ 3) (hsp : ∀ m, n = m + 1 → ∀ vs H Q E, spVal m vs H Q E → sp' vs H Q E) : FnOk P w K mg base CX0 (j + 1) fV fd ["_law_source_here", "_law_deep"] (spVal n) := by
  have GD : FnOk P w K mg base CX0 1 fD fdD ["_law_source_here", "_law_many"] spDraw := ok_draw FD
  refine F.ok scValue (fun vs H Q E h => ?_) (fun cdv A outer s H vs Q E hr h => ?_)
  · obtain ⟨s, l, ms, z, b, rfl, _⟩ := h
    rfl
  · obtain ⟨a, l, ms, z, b, rfl, hs, b0, b1, k⟩ := h
    have hr1 : Room 1 _ := hr.mono (by omega)
    have hr3 : Room 3 _ := hr.mono hj
    have hnb := nb_pos n
    refine ⟨_, pss_cons (ps_set (i := 2) scValue.nd rfl (Or.inl rfl) (pe_call GD hr1 rfl T.gD T.kD bD .nil pass0 (pa_cons (pv 0) (pa_cons pe_int pa_nil))))
      (pss_cons (ps_if (PW.pt (pw_or (pt_cmpR op_eq (pv 1) pe_int (nomark _)) (pw_or1 (pt_cmpR op_lt (pv 2) pe_int (nomark _)))))
        (pss_one (ps_ret (pe_call GL hr3 rfl T.gL T.kL bL .nil pass0 (pa_cons (pv 0) pa_nil)))) pss_nil)
      (pss_cons (ps_setLc (i := 3) (own := [("_law_k", 4)]) (g := gName 4) (tt := tYes) rfl scValue.nd rfl rfl (sw_true rfl rfl rfl (by decide +kernel))
          (pi_range1 rfl T.range (pa_cons (pe_call GD hr1 rfl T.gD T.kD bD .nil pass0 (pa_cons (pv 0) (pa_cons pe_int pa_nil))) pa_nil))
          (blkOk_by (N := ["_law_source_here", "_law_deep", "_law_way", "_law_inner", "_law_k"]) (sc := defScope sValue) (by decide +kernel)) (fun _ _ _ _ _ => pg_name (i := 4) scValue.nd rfl (Or.inl rfl)) (fun _ _ _ _ _ => pts_nil)
          (fun _ _ _ _ _ => pe_call GV hr rfl T.gV T.kV bV .nil pass0 (pa_cons (pv 0) (pa_cons (pe_op op_sub (pv 1) pe_int) pa_nil))))
      (pss_cons (ps_if (pt_cmpR op_eq (pv 2) pe_int (nomark _)) (pss_one (ps_ret (pe_callTy call_tuple_of (by rfl) T.tuple (by decide +kernel) (pa_cons (pv 3) pa_nil)))) pss_nil)
      (pss_cons (ps_if (pt_cmpR op_eq (pv 2) pe_int (nomark _)) (pss_one (ps_ret (pv 3))) pss_nil)
      (pss_one (ps_ret (pe_disp (pps_cons pe_str (pv 3) (pps_cons pe_int (pe_call GL hr3 rfl T.gL T.kL bL .nil pass0 (pa_cons (pv 0) pa_nil)) pps_nil)) rfl rfl (by simp) (by decide)))))))), ?_⟩
    refine ⟨_, rfl, a, l, ms, z, b, 6, rfl, hs, by decide, by decide, b0, by omega, fun H1 ms1 way k1 hs1 w0 w1 => ?_⟩
    have pl : ∀ (c : Bool), c = true → spPlain [.ref a] H1 Q E0 := fun c _ => by
      refine ⟨a, l, ms1, z, b + 1, rfl, hs1, by omega, by omega, fun H2 ms2 b2 v x bs k2 hs2 c1 c2 hv hx => ?_⟩
      exact k H2 ms2 b2 v x bs (k1.trans k2) hs2 (by omega) (by omega) ((hv.from fun c e => none_back hs hs1 k1 e).lvl (lv_pos n)) (Nat.le_trans hx (tb_pos n))
    refine ⟨_, rfl, rfl, _, rfl, ?_⟩
    refine ite_ (fun hd => iteT ⟨_, rfl, pl true rfl⟩) (fun hd => ?_)
    refine ⟨_, rfl, _, _, rfl, rfl, _, rfl, ?_⟩
    refine ite_ (fun hw => ⟨_, rfl, pl true rfl⟩) (fun hw => ?_)
    obtain ⟨m, rfl⟩ : ∃ m, n = m + 1 := by
      cases n with
      | zero => exact absurd rfl hd
      | succ m => exact ⟨m, rfl⟩
    have hnm := nb_pos m
    have enb : nb (m + 1) = 2 * nb m + 5 := rfl
    refine ⟨_, rfl, a, l, ms1, z, b + 1, 3, rfl, hs1, by decide, by decide, by omega, by omega, fun H2 ms2 r k2 hs2 r0 r1 => ⟨r, rfl, by omega, by omega, fun D hD => ?_⟩⟩
    obtain ⟨Da, Dl⟩ := hs2.none_ne hD
    have k12 := k1.trans k2
    have hD0 : H D = none := none_back hs hs2 k12 hD
    refine lc_range (lo := 0) (n := r.toNat) (fun i H' => ∃ (ms' : List Int) (b' : Int) (vs : List V) (ts : List Str) (bs : List Addr), But a l H H' ∧ Src H' a l ms' z b' ∧ b ≤ b' ∧ b' ≤ b + 2 + (i : Int) * nb m ∧ H' D = some (.lst vs) ∧
      DvAll H H' vs ts (lv m) bs ∧ D ∉ bs ∧ (∀ t ∈ ts, t.length ≤ tb m) ∧ ts.length = i) ?_ ?_ ?_
    · refine ⟨ms2, b + 1 + 1, [], [], [], k12.fresh hD, hs2.but fun c o e => ?_, by omega, by omega, upd_same, .nil, by simp, by simp, rfl⟩
      rw [upd_ne (ne_of_none e hD)]
      exact e
    · rintro i H3 hi ⟨ms3, b3, vs, ts, bs, k3, hs3, c1, c2, eD, dv, nD, ht, hl⟩
      refine ⟨rfl, ?_⟩
      dsimp only [tYes]
      rw [if_pos rfl]
      refine ⟨_, rfl, _, rfl, _, _, rfl, rfl, ?_⟩
      have eI : ((i : Nat) : Int) * nb m ≤ 1 * nb m := Int.mul_le_mul_of_nonneg_right (by omega) (by omega)
      have eS : ((i + 1 : Nat) : Int) * nb m = (i : Int) * nb m + nb m := by
        rw [Int.natCast_succ, Int.add_mul, Int.one_mul]
      refine hsp m rfl _ _ _ _ ⟨a, l, ms3, z, b3, ?_, hs3, by omega, by omega, fun H4 ms4 b4 v x cs k4 hs4 d1 d2 hv hx => ?_⟩
      · have e1 : (((m + 1 : Nat) : Int) - 1) = (m : Int) := by omega
        show [V.ref a, V.int (((m + 1 : Nat) : Int) - 1)] = _
        rw [e1]
      have eD4 : H4 D = some (.lst vs) := k4 D _ Da Dl eD
      have hlen := dv.length
      refine ⟨vs, eD4, ?_, ms4, b4, vs ++ [v], ts ++ [x], bs ++ cs, ?_, ⟨?_, ?_, hs4.len⟩, by omega, by omega, upd_same, ?_, ?_, ?_, ?_⟩
      · rw [hlen, hl]
        show i < 16777216
        omega
      · intro c o n1 n2 e
        rw [upd_ne (fun q => by rw [q, hD0] at e; exact nomatch e)]
        exact k4 c o n1 n2 (k3 c o n1 n2 e)
      · rw [upd_ne Da.symm]
        exact hs4.hs
      · rw [upd_ne Dl.symm]
        exact hs4.hl
      · have cD : ∀ c ∈ cs, c ≠ D := fun c hc q => by
          have e := hv.new c hc
          rw [q, eD] at e
          cases e
        have bD' : ∀ c ∈ bs, c ≠ D := fun c hc q => nD (q ▸ hc)
        have d3 : DvAll H (upd H4 D (.lst (vs ++ [v]))) vs ts (lv m) bs := dv.keep fun c hc o e => by
          rw [upd_ne (bD' c hc)]
          have n0 := dv.new c hc
          obtain ⟨n1, n2⟩ := hs.none_ne n0
          exact k4 c o n1 n2 e
        have d4 : Dv H (upd H4 D (.lst (vs ++ [v]))) v x (lv m) cs := (hv.from fun c e => none_back hs hs3 k3 e).keep fun c hc o e => by
          rw [upd_ne (cD c hc)]
          exact e
        have d5 := d3.append (.cons d4 .nil)
        rw [List.append_nil] at d5
        exact d5
      · intro hm
        rcases List.mem_append.mp hm with hm | hm
        · exact nD hm
        · have e := hv.new D hm
          rw [eD] at e
          cases e
      · intro t ht'
        rcases List.mem_append.mp ht' with q | q
        · exact ht t q
        · rw [List.mem_singleton.mp q]
          exact hx
      · rw [List.length_append, hl]
        rfl
    · rintro H3 ⟨ms3, b3, vs, ts, bs, k3, hs3, c1, c2, eD, dv, nD, ht, hl⟩
      have eI : ((r.toNat : Nat) : Int) * nb m ≤ 2 * nb m := Int.mul_le_mul_of_nonneg_right (by omega) (by omega)
      have hl2 : ts.length ≤ 2 := by omega
      have tl := listText_le ht hl2
      have tt := tupleText_le ht hl2
      have etb : tb (m + 1) = 2 * tb m + 200 := rfl
      have elv : lv (m + 1) = lv m + 2 := rfl
      have dD : Dv H H3 (.ref D) (listText ts) (lv m + 1) (D :: bs) := .lst hD0 eD dv nD
      refine ⟨_, rfl, rfl, _, rfl, ?_⟩
      refine ite_ (fun h3 => ?_) (fun h3 => ?_)
      · refine ⟨_, rfl, D, vs, rfl, .inl ⟨SqL.of eD, fun p hp => ?_⟩⟩
        have pb : p ∉ bs := fun hm => by
          obtain ⟨o, e⟩ := dv.there p hm
          rw [hp] at e
          cases e
        have hp0 : H p = none := none_back hs hs3 k3 hp
        have d3 : DvAll H (upd H3 p (.tup vs)) vs ts (lv m) bs := dv.keep fun c hc o e => by
          rw [upd_ne (ne_of_none e hp)]
          exact e
        exact k _ ms3 b3 _ _ _ (k3.fresh hp) (hs3.but fun c o e => by rw [upd_ne (ne_of_none e hp)]; exact e) (by omega) (by omega) (Dv.lvl (.tup hp0 upd_same d3 pb) (by omega)) (by omega)
      refine ⟨_, rfl, rfl, _, rfl, ?_⟩
      refine ite_ (fun h4 => ?_) (fun h4 => ?_)
      · exact ⟨_, rfl, k _ ms3 b3 _ _ _ k3 hs3 (by omega) (by omega) (dD.lvl (by omega)) (by omega)⟩
      intro p hp
      obtain ⟨pa, pl'⟩ := hs3.none_ne hp
      have hp0 : H p = none := none_back hs hs3 k3 hp
      have s4 : Same H3 (upd H3 p (.dK [])) := fun c o e => by
        rw [upd_ne (ne_of_none e hp)]
        exact e
      have hs4 : Src (upd H3 p (.dK [])) a l ms3 z b3 := hs3.but s4
      refine ⟨_, rfl, ?_⟩
      refine ⟨_, rfl, a, l, ms3, z, b3, rfl, hs4, by omega, by omega, fun H5 ms5 b5 v x cs k5 hs5 d1 d2 hv hx => ?_⟩
      have k35 : But a l H H5 := (k3.trans (.of_same s4)).trans k5
      have ep5 : H5 p = some (.dK []) := k5 _ _ pa pl' upd_same
      have eD5 : H5 D = some (.lst vs) := k5 _ _ Da Dl (s4 _ _ eD)
      have pD : p ≠ D := fun q => by
        rw [q, eD] at hp
        cases hp
      have pb : p ∉ bs := fun hm => by
        obtain ⟨o, e⟩ := dv.there p hm
        rw [hp] at e
        cases e
      have pc : p ∉ cs := fun hm => by
        have e := hv.new p hm
        rw [upd_same] at e
        cases e
      refine ⟨ep5, [(Sum.inr "a", .ref D), (Sum.inl 1, v)], rfl, by simp, ?_⟩
      have em : mergeK [] [((Sum.inr "a" : Key), V.ref D), (Sum.inl 1, v)] = [((Sum.inr "a" : Key), V.ref D), (Sum.inl 1, v)] := rfl
      rw [em]
      have d3 : DvAll H (upd H5 p (.dK [((Sum.inr "a" : Key), V.ref D), (Sum.inl 1, v)])) vs ts (lv m) bs := dv.keep fun c hc o e => by
        rw [upd_ne (fun q => pb (by rw [← q]; exact hc))]
        have n0 := dv.new c hc
        obtain ⟨n1, n2⟩ := hs.none_ne n0
        exact k5 c o n1 n2 (s4 c o e)
      have d4 : Dv H (upd H5 p (.dK [((Sum.inr "a" : Key), V.ref D), (Sum.inl 1, v)])) (.ref D) (listText ts) (lv m + 1) (D :: bs) := .lst hD0 (by rw [upd_ne pD.symm]; exact eD5) d3 nD
      have d5 : Dv H (upd H5 p (.dK [((Sum.inr "a" : Key), V.ref D), (Sum.inl 1, v)])) v x (lv m + 1) cs := ((hv.from fun c e => none_back hs hs4 (k3.trans (.of_same s4)) e).keep fun c hc o e => by
        rw [upd_ne (fun q => pc (by rw [← q]; exact hc))]
        exact e).lvl (by omega)
      have pp : p ∉ (D :: bs) ++ (cs ++ []) := fun hm => by
        rcases List.mem_append.mp hm with q | q
        · rcases List.mem_cons.mp q with q | q
          · exact pD q
          · exact pb q
        · exact pc (by simpa using q)
      refine k _ ms5 b5 _ _ _ (fun c o n1 n2 e => ?_) ⟨?_, ?_, hs5.len⟩ (by omega) (by omega) (Dv.dct hp0 upd_same (fun q hq => ?_) (.cons d4 (.cons d5 .nil)) pp) ?_
      · rw [upd_ne (fun q => by rw [q, hp0] at e; exact nomatch e)]
        exact k35 c o n1 n2 e
      · rw [upd_ne pa.symm]
        exact hs5.hs
      · rw [upd_ne pl'.symm]
        exact hs5.hl
      · rcases List.mem_cons.mp hq with q | q
        · rw [q]
          show (reprText _).length ≤ sizeLine
          decide +kernel
        · rw [List.mem_singleton.mp q]
          show (1 : Int).natAbs.log2 < 1920
          decide
      · show (dictText [entryText (reprText "a") (listText ts), entryText (toString (1 : Int)) x]).length ≤ _
        have e1 : (reprText "a").length = 3 := by decide +kernel
        have e2 : ((toString (1 : Int) : String) : Str).length = 1 := by decide +kernel
        have e3 : ((": " : String) : Str).length = 2 := by decide +kernel
        have e4 : (("{" : String) : Str).length = 1 := by decide +kernel
        have e5 : (("}" : String) : Str).length = 1 := by decide +kernel
        have e6 : ((", " : String) : Str).length = 2 := by decide +kernel
        have e7 : ∀ y z : Str, (Str.join ", " [y, z]).length = y.length + 2 + z.length := fun y z => by
          show (y ++ ", " ++ z).length = _
          rw [strLen_append, strLen_append, e6]
        unfold dictText
        rw [strLen_append, strLen_append, e7]
        unfold entryText
        rw [strLen_append, strLen_append, strLen_append, strLen_append, e1, e2, e3, e4, e5]
        omega
/-- the promise of _law_value at the depths 0 to 3 -/
theorem ok_value {fd fdD fdL : FuncData} (T : TxtB K mg fD fP fL fV) (F : Fun K "_law_value" "_law_value" sValue fV fd) (bV : Binds K fd ["_law_source_here", "_law_deep"] [])
    (FD : Fun K "_law_draw" "_law_draw" sDraw fD fdD) (bD : Binds K fdD ["_law_source_here", "_law_many"] [])
    (GL : FnOk P w K mg base CX0 3 fL fdL ["_law_source_here"] spPlain) (bL : Binds K fdL ["_law_source_here"] []) : ∀ n : Nat, n ≤ 3 → FnOk P w K mg base CX0 (4 + n) fV fd ["_law_source_here", "_law_deep"] (spVal n)
  | 0, h => ok_step (j := 3) T F bV FD bD GL bL (Nat.le_refl _) (sp' := fun _ _ _ _ => False) ⟨fun _ _ _ _ z => z.elim, fun _ _ _ _ _ _ _ _ _ _ _ _ _ z => z.elim⟩ h fun m e => nomatch e
  | n + 1, h => ok_step (j := 4 + n) T F bV FD bD GL bL (by omega) (ok_value T F bV FD bD GL bL n (by omega)) h fun m e vs H Q E z => by
      cases e
      exact z
end
end Vk
namespace Vk
open PySem
/-! a family of exception classes: own classes above `tail`, made by the built-in newId of the class nB, set up by the built-in initId of the class iB -/
abbrev veT : List Value := [.type "ValueError", .type "Exception", .type "BaseException", .type "object"]
abbrev keT : List Value := [.type "KeyError", .type "LookupError", .type "Exception", .type "BaseException", .type "object"]
structure Fam (nB newId nInit iB initId : String) (nTail tail : List Value) : Prop where
  F : ExcBaseFacts nB newId nInit nTail
  hasN : tail.contains (.type nB) = true
  hasI : tail.contains (.type iB) = true
  hasB : tail.contains (.type "BaseException") = true
  hasO : tail.contains (.type "object") = true
  noA : tail.contains (.type "AttributeError") = false
  noN : tail.contains (.type "NameError") = false
  iPlain : plainId initId = true
  iEntry : entryFor table initId = some Builtin.«BaseException.__init__»
  iSplit : splitId initId = some (iB, "__init__")
  iKind : builtinKind initId = some .slot
  iRow : Manifest.signature? initId = some ⟨.positional, "*", iB, .self, [⟨"args", .varPos, false⟩]⟩
  iStar : (iB != "*") = true
  passes : ∀ self : Value, refuseLoop self "__setattr__" tail = pure ()
theorem famV : Fam "ValueError" "ValueError.__new__" "ValueError.__init__" "ValueError" "ValueError.__init__" veT veT where
  F := F.excBase_ValueError
  hasN := by decide +kernel
  hasI := by decide +kernel
  hasB := by decide +kernel
  hasO := by decide +kernel
  noA := by decide +kernel
  noN := by decide +kernel
  iPlain := F.excBase_ValueError.init.plain
  iEntry := F.excBase_ValueError.initEntry
  iSplit := F.excBase_ValueError.initSplit
  iKind := F.excBase_ValueError.initKind
  iRow := F.excBase_ValueError.initRow
  iStar := by decide +kernel
  passes := F.store_ValueError.passes
theorem famK : Fam "LookupError" "LookupError.__new__" "LookupError.__init__" "KeyError" "KeyError.__init__" [.type "LookupError", .type "Exception", .type "BaseException", .type "object"] keT where
  F := F.excBase_LookupError
  hasN := by decide +kernel
  hasI := by decide +kernel
  hasB := by decide +kernel
  hasO := by decide +kernel
  noA := by decide +kernel
  noN := by decide +kernel
  iPlain := by decide +kernel
  iEntry := entryFor_alias (id' := "BaseException.__init__") (by
    rw [fastTable_eq_tree]
    kernel_rfl) rfl (by decide +kernel) (by
    rw [fastTable_eq_tree]
    kernel_rfl)
  iSplit := by kernel_rfl
  iKind := by kernel_rfl
  iRow := by kernel_rfl
  iStar := by decide +kernel
  passes := fun self => by kernel_rfl
/-- the mro above the class itself: own classes, then the tail -/
def Above (tail : List Value) : List Value → Prop
  | .ref _ :: r => Above tail r
  | l => l = tail
theorem above_has {tail : List Value} (X : String) : ∀ {l : List Value}, Above tail l → l.contains (.type X) = tail.contains (.type X)
  | [], h => by rw [show ([] : List Value) = tail from h]
  | .ref c :: r, h => by
    rw [List.contains_cons, above_has X (l := r) h]
    rfl
  | .none :: r, h => by rw [show (Value.none :: r) = tail from h]
  | .ellipsis :: r, h => by rw [show (Value.ellipsis :: r) = tail from h]
  | .notImplemented :: r, h => by rw [show (Value.notImplemented :: r) = tail from h]
  | .bool b :: r, h => by rw [show (Value.bool b :: r) = tail from h]
  | .int i t :: r, h => by rw [show (Value.int i t :: r) = tail from h]
  | .float i t :: r, h => by rw [show (Value.float i t :: r) = tail from h]
  | .str i t :: r, h => by rw [show (Value.str i t :: r) = tail from h]
  | .bytes i t :: r, h => by rw [show (Value.bytes i t :: r) = tail from h]
  | .type i :: r, h => by rw [show (Value.type i :: r) = tail from h]
  | .builtin i :: r, h => by rw [show (Value.builtin i :: r) = tail from h]
end Vk
namespace Vk
open PySem Builtin Builtin.ObjectAttr
/-- a fresh exception, its arguments at tp -/
abbrev exNew (C tp : Addr) : Obj := { cls := .ref C, data := .fields #[.ref tp, .none, .none, .none, .bool false, .none] }
section
variable {M : Model} {prog : Program} {w : World} {A : Around} {E : Value → Shared → Prop} {R : Result → Shared → Prop} {h : Heap} {g : Array GenState} {d : Drawn} {t : Nat} {os : OsState}
variable {nm q : Str} {C N : Addr} {bs bm : List Value} {hdct : Bool} {sn : List Str} {sub : List Value} {ab : Bool} {col : Option Bool} {dd : Option Addr} {k0 k1 k2 k3 k5 : Option Value}
variable {nB newId nInit iB initId : String} {nTail tail : List Value}
theorem fam_check_new (Z : Fam nB newId nInit iB initId nTail tail) (up : Above tail bm) {rest : List Value} {kw : List (Str × Value)} {Q : Unit → Shared → Prop}
    (cl : h.get? C = some (excClassObj nm q C N bs bm hdct sn sub ab col dd k0 k1 k2 k3 k5 newId)) (go : Q () ⟨h, g, d, t, os⟩) : wpAny M A (checkBuiltinCall newId ⟨.ref C :: rest, kw⟩) Q E ⟨h, g, d, t, os⟩ := by
  have isB : (Value.ref C :: bm).contains (.type nB) = true := by
    rw [List.contains_cons, above_has nB up, Z.hasN, Bool.or_true]
  have nStar := Z.F.noStar
  simp only [checkBuiltinCall, Z.F.newKind, Z.F.newSplit, Z.F.newRow]
  repeat (first
    | refine wpAny_loadPart_at cl ?_
    | (refine wpAny_isSubtype_exc cl ?_; rw [isB])
    | refine wpAny_staticBase_exc cl ?_
    | refine wpAny_madeBy_exc cl ?_
    | simp only [bne_self_eq_false, Bool.false_eq_true, if_false]
    | wp_step)
  exact go
theorem fam_new (Z : Fam nB newId nInit iB initId nTail tail) (up : Above tail bm) {rest : List Value} {kw : List (Str × Value)}
    (cl : h.get? C = some (excClassObj nm q C N bs bm hdct sn sub ab col dd k0 k1 k2 k3 k5 newId)) (sz : rest.length ≤ sizeLine)
    (go : R (.ok (.ret (.ref (h.objs.size + 1)))) ⟨(h.push { cls := .type "tuple", data := .seq rest.toArray }).push (exNew C h.objs.size), g, d, t, os⟩) :
    codeAny (model prog w) A (.builtin newId ⟨.ref C :: rest, kw⟩) R ⟨h, g, d, t, os⟩ := by
  have fe := Z.F.ends
  have isB : (Value.ref C :: bm).contains (.type nB) = true := by
    rw [List.contains_cons, above_has nB up, Z.hasN, Bool.or_true]
  have isA : (Value.ref C :: bm).contains (.type "AttributeError") = false := by
    rw [List.contains_cons, above_has _ up, Z.noA]
    rfl
  have isN : (Value.ref C :: bm).contains (.type "NameError") = false := by
    rw [List.contains_cons, above_has _ up, Z.noN]
    rfl
  refine codeAny_builtinAt Z.F.entry ?_
  unfold Builtin.«BaseException.__new__»
  refine wpAt_bind ?_
  show wpAt _ _ _ (stack >>= _) _ _ _
  refine wpAt_bind (wpAt_stack fun p below => wpAt_of_wpAny ?_)
  wp_walk
  refine wpAt_of_wpAny ?_
  rw [Z.F.owner]
  repeat (first
    | with_reducible refine wpAny_madeHere_exc Z.F.canon cl ?_
    | with_reducible refine wpAny_loadPart_at cl ?_
    | (with_reducible refine wpAny_isSubtype_exc cl ?_; first | rw [isB] | rw [isA] | rw [isN])
    | wp_step)
  show R _ _
  rw [Heap.size_push]
  exact go
theorem fam_check_init (Z : Fam nB newId nInit iB initId nTail tail) (up : Above tail bm) {e : Addr} {oe : Obj} {rest : List Value} {Q : Unit → Shared → Prop}
    (cl : h.get? C = some (excClassObj nm q C N bs bm hdct sn sub ab col dd k0 k1 k2 k3 k5 newId)) (he : h.get? e = some oe) (hc : oe.cls = .ref C) (go : Q () ⟨h, g, d, t, os⟩) :
    wpAny M A (checkBuiltinCall initId ⟨.ref e :: rest, []⟩) Q E ⟨h, g, d, t, os⟩ := by
  have isB : (Value.ref C :: bm).contains (.type iB) = true := by
    rw [List.contains_cons, above_has iB up, Z.hasI, Bool.or_true]
  have nStar := Z.iStar
  simp only [checkBuiltinCall, Z.iKind, Z.iSplit, Z.iRow]
  repeat (first
    | (with_reducible refine wpAny_loadPart_at he ?_; rw [hc])
    | with_reducible refine wpAny_loadPart_at cl ?_
    | (with_reducible refine wpAny_isSubtype_exc cl ?_; rw [isB])
    | wp_step)
  refine wpAny_onRaise ?_
  have st : ∀ (a b : String) (n : Nat), Bind.check ⟨.positional, "*", iB, .self, [⟨"args", .varPos, false⟩]⟩ a b n (List.map (fun x => x.fst) ({ pos := Value.ref e :: rest } : Args).kw) = pure () := fun a b n => check_star_args _ _ _ _ _ _
  rw [st]
  exact wpAny_pure go
/-- the built-in __init__ on a fresh exception -/
theorem fam_init (Z : Fam nB newId nInit iB initId nTail tail) (up : Above tail bm) {e tp : Addr} {rest : List Value} (cl : h.get? C = some (excClassObj nm q C N bs bm hdct sn sub ab col dd k0 k1 k2 k3 k5 newId))
    (he : h.get? e = some (exNew C tp)) (sz : rest.length ≤ sizeLine)
    (go : ∀ h' t1, (∀ b o, b ≠ e → h.get? b = some o → h'.get? b = some o) → h'.get? e = some (exNew C t1) → R (.ok (.ret .none)) ⟨h', g, d, t, os⟩) :
    codeAny (model prog w) A (.call (.builtin initId) ⟨.ref e :: rest, []⟩) R ⟨h, g, d, t, os⟩ := by
  refine codeAny_call_builtin Z.iPlain Z.iEntry (fam_check_init Z up cl he rfl ?_)
  wp_walk
  refine go _ h.objs.size (fun b o nb ho => ?_) ?_
  · exact (Heap.get?_update_other _ _ (Ne.symm nb)).trans (Heap.get?_push_of_some _ ho)
  · refine (Heap.get?_update_self _ (Heap.get?_push_of_some _ he) rfl).trans ?_
    rfl
/-- the class is called: the built-in __new__, then the class's own __init__ -/
theorem fam_call (Z : Fam nB newId nInit iB initId nTail tail) (up : Above tail bm) {rest : List Value} {kw : List (Str × Value)} {fI : Addr}
    (cl : h.get? C = some (excClassObj nm q C N bs bm hdct sn sub ab col dd k0 k1 k2 k3 k5 newId))
    (hi : W.Looks (model prog w) h (typeLookup (.ref C) "__init__") (some (.ref fI))) (hb : ∀ self, W.Looks (model prog w) h (bindSpecial (.ref fI) self) (.ref fI, [self])) (sz : rest.length ≤ sizeLine)
    (go : codeAny (model prog w) (A.under (.builtin "type.__call__" ⟨.ref C :: rest, kw⟩)) (.call (.ref fI) ⟨.ref (h.objs.size + 1) :: rest, kw⟩) (W.InitBack (h.objs.size + 1) R)
      ⟨(h.push (W.kdv_tup rest)).push (exNew C h.objs.size), g, d, t, os⟩) :
    codeAny (model prog w) A (.call (.ref C) ⟨rest, kw⟩) R ⟨h, g, d, t, os⟩ := by
  have f1 := tc_lookup
  have f2 := tc_bind (.ref C)
  have f3 := tc_sub
  have ty : (⟨h, g, d, t, os⟩ : Shared).TypeIs (.ref C) "type" := ⟨_, cl, rfl⟩
  have k : ∀ b o, h.get? b = some o → ((h.push (W.kdv_tup rest)).push (exNew C h.objs.size)).get? b = some o := fun b o e => Heap.get?_push_of_some _ (Heap.get?_push_of_some _ e)
  have cl2 := k _ _ cl
  have there : ((h.push (W.kdv_tup rest)).push (exNew C h.objs.size)).get? (h.objs.size + 1) = some (exNew C h.objs.size) := by heap_get
  have isC : (Value.ref C :: bm).contains (.ref C) = true := by simp
  have i1 := hi.keeps k
  have b1 := (hb (.ref (h.objs.size + 1))).keeps k
  refine codeAny_of_tree ?_
  show wpAny _ _ (callAny (.ref C) _) _ _ _
  repeat (any_goals (first | assumption | with_reducible refine wpAny_loadPart_at cl ?_ | wp_step))
  refine ⟨rfl, ?_⟩
  refine codeAny_call_builtin_at (Code.quiet_builtin _ (by decide +kernel)) entry_typeCall ?_
  have chk : ∀ {Q : Unit → Shared → Prop} {A' : Around} {E' : Value → Shared → Prop}, Q () ⟨h, g, d, t, os⟩ → wpAny (model prog w) A' (checkBuiltinCall "type.__call__" ⟨.ref C :: rest, kw⟩) Q E' ⟨h, g, d, t, os⟩ := by
    intro Q A' E' go
    simp only [checkBuiltinCall, tc_kind, tc_split]
    repeat (any_goals (first | assumption | with_reducible refine wpAny_loadPart_at cl ?_ | with_reducible refine wpAny_onRaise ?_ | with_reducible refine wpAny_map ?_ | wp_step))
  refine chk ?_
  repeat (first | with_reducible refine wpAny_loadPart_at cl ?_ | with_reducible refine wpAny_madeBy_exc cl ?_ | wp_step)
  refine codeAny_call_builtin_code (Code.quiet_builtin _ Z.F.quiet) (fam_check_new Z up cl ?_)
  refine fam_new Z up cl sz ?_
  show wpAny _ _ _ _ _ ⟨(h.push (W.kdv_tup rest)).push (exNew C h.objs.size), g, d, t, os⟩
  unfold isInstance
  repeat (first | with_reducible refine wpAny_loadPart_at there ?_ | (with_reducible refine wpAny_isSubtype_exc cl2 ?_; rw [isC]) | wp_step)
  show wpAny _ _ (typeLookup (.ref C) _) _ _ _
  refine i1.at ?_
  refine wpAny_holding (wpAny_bind (b1.at ?_))
  refine wpAny_bind (wpAny_call (codeAny_mono go fun r s' z => ?_))
  match r, z with
  | .error e, z => exact z
  | .ok (.ret v), z =>
    obtain ⟨rfl, z⟩ := z
    exact wpAny_pure (wpAny_pure z)
end
end Vk
namespace Vk
open PySem Builtin Builtin.ObjectAttr
section
variable {prog : Program} {w : World} {A : Around} {E : Value → Shared → Prop} {R : Result → Shared → Prop} {hp : Heap} {g : Array GenState} {d : Drawn} {t : Nat} {os : OsState}
variable {nB newId nInit iB initId : String} {nTail tail : List Value}
theorem fam_passes (Z : Fam nB newId nInit iB initId nTail tail) (self : Value) : ∀ {l : List Value}, Above tail l → refuseLoop self "__setattr__" l = pure ()
  | [], h => by
    rw [show ([] : List Value) = tail from h]
    exact Z.passes self
  | .ref c :: r, h => (refuseLoop_ref ..).trans (fam_passes Z self (l := r) h)
  | .none :: r, h => by
    rw [show (Value.none :: r) = tail from h]
    exact Z.passes self
  | .ellipsis :: r, h => by
    rw [show (Value.ellipsis :: r) = tail from h]
    exact Z.passes self
  | .notImplemented :: r, h => by
    rw [show (Value.notImplemented :: r) = tail from h]
    exact Z.passes self
  | .bool b :: r, h => by
    rw [show (Value.bool b :: r) = tail from h]
    exact Z.passes self
  | .int i t :: r, h => by
    rw [show (Value.int i t :: r) = tail from h]
    exact Z.passes self
  | .float i t :: r, h => by
    rw [show (Value.float i t :: r) = tail from h]
    exact Z.passes self
  | .str i t :: r, h => by
    rw [show (Value.str i t :: r) = tail from h]
    exact Z.passes self
  | .bytes i t :: r, h => by
    rw [show (Value.bytes i t :: r) = tail from h]
    exact Z.passes self
  | .type i :: r, h => by
    rw [show (Value.type i :: r) = tail from h]
    exact Z.passes self
  | .builtin i :: r, h => by
    rw [show (Value.builtin i :: r) = tail from h]
    exact Z.passes self
/-- x.name = v, x an exception without a dict -/
theorem fam_store (Z : Fam nB newId nInit iB initId nTail tail) {K : W.Frag} {name : Str} {tk : Tok} {v : Value} {x C tp : Addr} {cd : ClassData} {bm : List Value} (X : K.In hp) (hx : hp.get? x = some (exNew C tp))
    (hcd : W.clsIn K C = some cd) (hm : cd.mro = .ref C :: bm) (up : Above tail bm) (hh : cd.hasDict = true) (ha : W.findIn K (.ref C) name = some none)
    (go : ∀ h' tk' dx, (∀ b o, b ≠ x → hp.get? b = some o → h'.get? b = some o) → hp.objs.size ≤ dx → dx ≠ x → h'.get? x = some { (exNew C tp) with dict := some dx } →
      h'.Ns1 dx (fun y => if y = name then some v else none) → R (.ok (.ret .none)) ⟨h', g, d, tk', os⟩) :
    codeAny (model prog w) A (.call (.builtin "object.__setattr__") ⟨[.ref x, .str name tk, v], []⟩) R ⟨hp, g, d, t, os⟩ := by
  have up' : Above tail (.ref C :: bm) := up
  have I : W.InstAt hp x (exNew C tp) C none := ⟨hx, rfl, rfl, trivial⟩
  have SO := F.store_object
  have isO : cd.mro.contains (.type "object") = true := by
    rw [hm, above_has _ up']
    exact Z.hasO
  have far : x ≠ hp.objs.size := Nat.ne_of_lt (Heap.lt_size hx)
  have inst : W.Looks (model prog w) hp (isInstance (.ref x) (.type "object")) true := I.type.andThen (W.looks_mroIn X (by
    unfold W.mroIn
    rw [hcd, Option.bind_some, if_neg (by rw [hm]; exact Bool.false_ne_true), isO]))
  refine codeAny_call_builtin SO.slot.plain SO.entry (@W.check_slot (model prog w) _ _ ⟨hp, g, d, t, os⟩ "object.__setattr__" "object" "__setattr__" (.ref x) [.str name tk, v] [] _ SO.kind SO.split inst (SO.args (.ref x) (.str name tk) v) ?_)
  have lm : W.Looks (model prog w) hp (mroOf (.ref C)) cd.mro := (W.looks_clsIn X hcd).andThen .now
  have lt : W.Looks (model prog w) hp (storeTaker? none) none := .now
  have lc : W.Looks (model prog w) hp (classData C) cd := W.looks_clsIn X hcd
  rw [W.osa_eq, refuse_eq]
  refine wpAny_bind (wpAny_bind (I.type.at (wpAny_bind (lm.at ?_))))
  rw [hm, fam_passes Z _ up']
  refine wpAny_pure (wpAny_bind (I.type.at (wpAny_bind ((W.looks_findIn X ha).at (wpAny_bind (lt.at ?_))))))
  show wpAny _ _ (storeInOwnDict (.ref x) (.ref C) (.str name tk) name v false) _ _ _
  obtain ⟨nm, bs, mro, ns, qn, hd, sn, sb, ab, col, del⟩ := cd
  dsimp only at hh
  subst hh
  unfold storeInOwnDict ownDictForStores
  repeat (first
    | with_reducible refine HandSPX.store_in_new ?_ ?_
    | with_reducible refine wpAny_loadPart_at hx ?_
    | with_reducible refine lc.at ?_
    | wp_step)
  · exact ⟨_, #[], _, (Heap.get?_update_ne _ _ _ _ far.symm).trans (Heap.get?_push_at rfl rfl), rfl, fun e he => absurd he (by simp), fun _ => rfl⟩
  · intro h' tk' hn' hs
    have hx1 : (hp.push { cls := .type "dict", data := .dict #[] }).get? x = some (exNew C tp) := Heap.get?_push_of_some _ hx
    refine go h' tk' hp.objs.size (fun b o nb ho => ?_) (Nat.le_refl _) far.symm ?_ hn'
    · exact (hs.2 b (Nat.ne_of_lt (Heap.lt_size ho))).trans ((Heap.get?_update_ne _ _ _ _ nb).trans (Heap.get?_push_of_some _ ho))
    · exact (hs.2 x far).trans (Heap.get?_update_self _ hx1 rfl)
end
end Vk
namespace Vk
open PySem L2
/-- what the written part says of an own exception class at C, made by newId -/
structure XC (K : PySem.W.Frag) (C : Addr) (newId : String) (tail : List Value) : Prop where
  cls : ∃ nm q N bs bm sn sub ab col dd k0 k1 k2 k3 k5, K.lookup C = some (excClassObj nm q C N bs bm true sn sub ab col dd k0 k1 k2 k3 k5 newId) ∧ Above tail bm
  sa : PySem.W.findIn K (.ref C) "__setattr__" = some (some (.builtin "object.__setattr__"))
  exC : PySem.W.subIn K (.ref C) (.type "BaseException") = some true
  tyC : PySem.W.typeIn K (.ref C) = some (.type "type")
  kC : PySem.W.keepIn K (.ref C) = true
  ga : PySem.W.findIn K (.ref C) "__getattribute__" = some (some (.builtin "BaseException.__getattribute__"))
  gg : PySem.W.findIn K (.ref C) "__getattr__" = some none
  hd : PySem.W.hasDictIn K C = true
  ca : PySem.W.findIn K (.ref C) "__class__" = some (some (.builtin "object.__class__"))
  mo : PySem.W.mroIn K C (.type "object") = some true
/-- __init__(self, v) of such a class: self.f = v -/
def spXInit (C : Addr) (f : Str) : Sp := fun vs H Q _ => ∃ (e : Addr) (v : V), vs = [.ref e, v] ∧ H e = some (exo e C none) ∧ ∀ dx, H dx = none → dx ≠ e → Q .non (upd (upd H dx (exd dx [(f, v)])) e (exo e C (some dx)))
/-- an exception of the class at C stands at e, with the field f -/
def XAt (H : Hp) (e C dx : Addr) (f : Str) (v : V) : Prop := dx ≠ e ∧ H e = some (exo e C (some dx)) ∧ H dx = some (exd dx [(f, v)])
section
variable {X : Cx} {nB newId nInit iB initId : String} {nTail tail : List Value}
/-- Base.__init__(self, ..), Base an own class that has no __init__ of its own -/
def tBInit (K : PySem.W.Frag) (newId : String) (tail : List Value) (ta : TA) : TE := fun σ H Q => ta σ H fun vs H1 => ∃ (a C : Addr) (ws : List V), vs = .ref a :: ws ∧ ws.length ≤ 1000 ∧ XC K C newId tail ∧ H1 a = some (exo a C none) ∧ Q .non H1
theorem pe_binit (Z : Fam nB newId nInit iB initId nTail tail) {T : Addr} {x : Str} {e : Expr} {es : List Expr} {ta : TA} {p1 p2 pos : Pos} {pl : Sem Bool} (hg : Gl X x) (hm : X.mg x = some (.ref T))
    (sg : PySem.W.specialIn X.K (.ref T) "__getattribute__" = some (some (.builtin "type.__getattribute__"))) (ty : PySem.W.typeIn X.K (.ref T) = some (.type "type")) (rd : PySem.W.readsIn X.K T (.type "type") = true)
    (fi : PySem.W.findCls X.K (.ref T) (.type "type") "__init__" = some (.val (.builtin initId))) (hh : PySem.W.handedIn (.builtin initId) = true) (ha : PA X (e :: es) ta) (hdb : (x == ("__debug__" : Str)) = false := by decide)
    (hc : eval (.Call (.Attribute (.Name x p1) "__init__" p2) (e :: es) [] pos) X.env = (do
      let ov ← eval (.Name x p1) X.env
      standAt p2.atName
      let (f, first) ← holding [ov] (getMethod ov "__init__" pl)
      callWith pos f first (backTo pos (starEach (e :: es) X.env)) (backToKw pos (keywordEach [] X.env))) := by rfl)
    (he : starEach (e :: es) X.env = (false, eval e X.env) :: starEach es X.env := by rfl) (hpl : (backTo pos (starEach es X.env)).any (·.1) = false := by rfl) :
    PE X (.Call (.Attribute (.Name x p1) "__init__" p2) (e :: es) [] pos) (tBInit X.K newId tail ta) := by
  refine ⟨fun pins s σ H Q I h => ?_⟩
  refine PySem.W.methodCall_KW (ld_glob I hg hm ?_ hdb) hc
  obtain ⟨m, fr⟩ := I.fr
  refine PySem.W.method_of_cls fr I.ok.mod.kin sg (PySem.W.cls_val fr I.ok.mod.kin ty rd fi hh ?_)
  show wpAny _ _ (callWith pos (Value.builtin initId) [] (backTo pos (starEach (e :: es) X.env)) []) _ _ _
  refine PyProof.Rows.callWith_method1 (thn (ha.run pos pins _ σ H _ (I.tok _) h) fun us s1 ⟨vs, H1, I1, r1, a, C, ws, ev, hl, T, ea, q⟩ => ?_) he hpl
  subst ev
  cases r1 with
  | @cons _ u0 _ ur ra rw' =>
    obtain rfl : u0 = Value.ref a := ra
    have sz : ur.length ≤ sizeLine := by
      rw [← Paired.length rw']
      exact Nat.le_trans hl (by decide)
    obtain ⟨nm, q', N, bs, bm, sn, sub, ab, col, dd, k0, k1, k2, k3, k5, cl, up⟩ := T.cls
    obtain ⟨t1, ho⟩ := exo_at I1.hok ea
    obtain ⟨hp, g, d, t, os⟩ := s1
    refine wpAny_call (fam_init Z up (I1.kIn _ _ cl) ho sz fun h' t2 k hx => ?_)
    have J := I1.write (t' := t) (x := a) (e := a) (o := exo a C none) (by rw [ea]; exact True.intro) (.inl rfl) k ⟨_, hx⟩ (exo_ok hx)
    have eu : upd H1 a (exo a C none) = H1 := by
      funext b
      by_cases hb : b = a
      · rw [hb, upd_same, ea]
      · rw [upd_ne hb]
    rw [eu] at J
    exact ⟨.non, H1, J, rfl, q⟩
/-- self.f = e, the first field -/
def tXSt (K : PySem.W.Frag) (newId : String) (tail : List Value) (f : Str) (to te : TE) : TS := fun D σ H => te σ H fun y H1 => to σ H1 fun x H2 => ∃ a C : Addr, x = .ref a ∧ XC K C newId tail ∧ PySem.W.findIn K (.ref C) f = some none ∧
  H2 a = some (exo a C none) ∧ ∀ dx, H2 dx = none → dx ≠ a → D.nx σ (upd (upd H2 dx (exd dx [(f, y)])) a (exo a C (some dx)))
theorem ps_xst (Z : Fam nB newId nInit iB initId nTail tail) {o e : Expr} {f : Str} {to te : TE} {pos p' : Pos} (ho : PE X o to) (he : PE X e te) (hs : swapsWith e (some (.Attribute o f p')) pos.line X.env = pure false := by rfl) :
    PS X (.Assign [.Attribute o f p'] e pos) (tXSt X.K newId tail f to te) := by
  refine ⟨fun pins s σ H D I h => ?_⟩
  refine plainObj_wpAny_Assign_Attribute (thn (he.run pins s σ H _ I h) fun v s1 ⟨y, H1, I1, r1, q1⟩ => thn (ho.run pins s1 σ H1 _ I1 q1) fun u s2 ⟨x, H2, I2, r2, a, C, ex, T, hno, ea, q⟩ => ?_) hs
  subst ex
  obtain rfl : u = Value.ref a := r2
  obtain ⟨nm, q', N, bs, bm, sn, sub, ab, col, dd, k0, k1, k2, k3, k5, cl, up⟩ := T.cls
  have hcl : PySem.W.clsIn X.K C = some { name := nm, bases := bs, mro := .ref C :: bm, ns := N, qualname := q', hasDict := true, slotNames := sn, subclasses := sub, abstract := ab, collection := col, hasDel := false } := by
    unfold PySem.W.clsIn
    rw [cl] <;> rfl
  obtain ⟨t1, hx⟩ := exo_at I2.hok ea
  obtain ⟨hp, g, d, t, os⟩ := s2
  refine PySem.W.set_plain I2.kIn (ox := exNew C t1) (od := none) ⟨hx, rfl, rfl, trivial⟩ T.sa ?_
  refine fam_store Z I2.kIn hx hcl rfl up rfl hno (fun h' tk' dx k dn dne hx' hn => ?_)
  have nd : H2 dx = none := I2.hok.fresh dn
  have nx : ∀ {b : Addr} {ob : Obj}, hp.get? b = some ob → b ≠ dx := fun {b ob} z => Nat.ne_of_lt (Nat.lt_of_lt_of_le (Heap.lt_size z) dn)
  have na : ∀ {b : Addr}, H2 b = none → b ≠ a := fun {b} n z => by
    rw [z, ea] at n
    cases n
  have U : Un X.fs [] H2 (upd (upd H2 dx (exd dx [(f, y)])) a (exo a C (some dx))) hp h' := {
    keep := fun b ob z n _ _ => k b ob (na n) z
    slot := fun b ob z n _ _ => ⟨ob.slots, k b ob (na n) z⟩
    free := fun b ob z n _ => by
      rw [upd_ne (na n), upd_ne (nx z)]
      exact n
    there := fun b ob z _ => by
      by_cases hb : b = a
      · exact ⟨_, by rw [hb]; exact hx'⟩
      · exact ⟨ob, k b ob hb z⟩
    tups := fun b xs z => by
      rw [upd_ne (at_ne ea z exo_tup), upd_ne (ne_of_none z nd)]
      exact z
    frzs := fun b ob v' z => by
      rw [upd_ne (at_ne ea z exo_frz), upd_ne (ne_of_none z nd)]
      exact z
    tbls := fun b ps z => ⟨#[], by
      rw [upd_ne (at_ne ea z exo_tbl), upd_ne (ne_of_none z nd), z]
      simp⟩ }
  refine ⟨σ, _, I2.un (t' := tk') U fun b ob z => ?_, q dx nd dne⟩
  by_cases hb : b = a
  · subst hb
    rw [upd_same] at z
    cases z
    exact exo_ok hx'
  · rw [upd_ne hb] at z
    by_cases hd : b = dx
    · subst hd
      rw [upd_same] at z
      cases z
      exact exd_ok hn (relO_put (fs := []) r1 fun _ => True.intro)
    · rw [upd_ne hd] at z
      refine (I2.hok b ob z).stay (fun c v' hc e => k c v' ?_ e) (fun c hc => ?_) (fun c xs hc => ?_)
      · rcases hc with hc | hc
        · rw [hc]
          exact hb
        · exact at_ne ea hc exo_own
      · rw [upd_ne (at_ne ea hc exo_own), upd_ne (ne_of_none hc nd)]
        exact hc
      · rw [upd_ne (at_ne ea hc exo_tup), upd_ne (ne_of_none hc nd)]
        exact hc
/-- C(..), an own exception class with its own __init__ at fI: a new exception with a field -/
theorem run_x (Z : Fam nB newId nInit iB initId nTail tail) {C fI : Addr} {fd : FuncData} {k : Nat} {f : Str} (T : XC X.K C newId tail) (iC : PySem.W.findIn X.K (.ref C) "__init__" = some (some (.ref fI))) (tI : PySem.W.typeIn X.K (.ref fI) = some (.type "function"))
    (F1 : FnOk X.prog X.w X.K X.mg X.base CX0 k fI fd ["self", f] (spXInit C f)) (hr : Room (k + 1) X.A) {rest : List Value} {kw : List (Str × Value)} {u : Value} {v : V} (sz : rest.length ≤ sizeLine)
    (hb : ∀ (s : Shared) (a : Value), X.K.In s.heap → BindsTo s fd ⟨a :: rest, kw⟩ ((["self", f] : List Str).zip [a, u]))
    {pins : List (Addr × Obj)} {σ : St} {H : Hp} {s : Shared} {Q : VK} (I : Inv X pins σ H s) (r : RelV v u)
    (h : ∀ (e dx : Addr) (H2 : Hp), Same H H2 → H e = none → H dx = none → XAt H2 e C dx f v → Q (.ref e) H2) : wpAny (model X.prog X.w) X.A (call (.ref C) rest kw) (EP X pins σ Q) X.xe s := by
  obtain ⟨nm, q', N, bs, bm, sn, sub, ab, col, dd, k0, k1, k2, k3, k5, cl, up⟩ := T.cls
  obtain ⟨hp, g, d, t, os⟩ := s
  have big : hp.objs.size ≤ hp.objs.size + 1 := Nat.le_succ _
  have n0 : H (hp.objs.size + 1) = none := I.hok.fresh big
  have kk : ∀ b o, hp.get? b = some o → ((hp.push (PySem.W.kdv_tup rest)).push (exNew C hp.objs.size)).get? b = some o := fun b o e => Heap.get?_push_of_some _ (Heap.get?_push_of_some _ e)
  have at0 : ((hp.push (PySem.W.kdv_tup rest)).push (exNew C hp.objs.size)).get? (hp.objs.size + 1) = some (exNew C hp.objs.size) := by heap_get
  have I2 : Inv X pins σ (upd H (hp.objs.size + 1) (exo (hp.objs.size + 1) C none)) ⟨(hp.push (PySem.W.kdv_tup rest)).push (exNew C hp.objs.size), g, d, t, os⟩ :=
    I.laid (t' := t) (a := hp.objs.size + 1) (o := exo (hp.objs.size + 1) C none) (h' := (hp.push (PySem.W.kdv_tup rest)).push (exNew C hp.objs.size)) kk big (exo_ok at0)
  have r2 : Vals [V.ref (hp.objs.size + 1), v] [Value.ref (hp.objs.size + 1), u] := .cons rfl (.cons r .nil)
  have want : spXInit C f [V.ref (hp.objs.size + 1), v] (upd H (hp.objs.size + 1) (exo (hp.objs.size + 1) C none)) (fun x H2 => x = .non ∧ Q (.ref (hp.objs.size + 1)) H2) (fun _ _ _ => False) := by
    refine ⟨_, _, rfl, upd_same, fun dx ndx ne => ?_⟩
    have nd0 : H dx = none := by
      rw [← ndx, upd_ne ne]
    refine ⟨rfl, h _ dx _ (fun b o e => ?_) n0 nd0 ⟨ne, upd_same, ?_⟩⟩
    · rw [upd_ne (ne_of_none e n0), upd_ne (ne_of_none e nd0), upd_ne (ne_of_none e n0)]
      exact e
    · rw [upd_ne ne, upd_same]
  refine wpAny_call (fam_call Z up (I.kIn _ _ cl) (PySem.W.looks_findIn I.kIn iC) (fun self => PySem.W.bind_fn I.kIn self tI) sz
    (codeAny_mono (F1.run _ X.stack _ _ ⟨Value.ref (hp.objs.size + 1) :: rest, kw⟩ [Value.ref (hp.objs.size + 1), u] _ _ (fun _ _ _ => False) (hr.make C rest kw) (I2.env0.make C rest kw) (hb _ _ I2.kIn) r2 want) fun r s' hq => ?_))
  cases r with
  | error er => exact hq.elim
  | ok fl =>
    cases fl with
    | ret u2 =>
      obtain ⟨x, H', I3, rx, ev, q3⟩ := I2.after hq
      subst ev
      exact ⟨rx, ⟨.ref (hp.objs.size + 1), H', I3, rfl, q3⟩⟩
    | next => exact hq.elim
    | brk => exact hq.elim
    | cont => exact hq.elim
/-- the reading of C(e) and C(f = e) -/
def tXMk (C : Addr) (f : Str) (te : TE) : TE := fun σ H Q => te σ H fun v H1 => ∀ (e dx : Addr) (H2 : Hp), Same H1 H2 → H1 e = none → H1 dx = none → XAt H2 e C dx f v → Q (.ref e) H2
theorem pe_xmk (Z : Fam nB newId nInit iB initId nTail tail) {C fI : Addr} {fd : FuncData} {k : Nat} {f x : Str} {e : Expr} {te : TE} {p pos : Pos} (T : XC X.K C newId tail) (iC : PySem.W.findIn X.K (.ref C) "__init__" = some (some (.ref fI)))
    (tI : PySem.W.typeIn X.K (.ref fI) = some (.type "function")) (F1 : FnOk X.prog X.w X.K X.mg X.base CX0 k fI fd ["self", f] (spXInit C f)) (hr : Room (k + 1) X.A) (hb : Binds X.K fd ["self", f] []) (hg : Gl X x) (hm : X.mg x = some (.ref C))
    (he : PE X e te) (hdb : (x == ("__debug__" : Str)) = false := by decide) (hs : starEach [e] X.env = (false, eval e X.env) :: starEach [] X.env := by rfl) :
    PE X (.Call (.Name x p) [e] [] pos) (tXMk C f te) := by
  refine ⟨fun pins s σ H Q I h => ?_⟩
  refine wpAny_Call_Name_kw (ld_glob I hg hm ?_ hdb)
  refine PySem.W.callWith_K (h₀ := X.base) I.ok.mod.kin T.kC ?_ hs (by rfl)
  rw [hs]
  show wpAny _ _ (spliced ((false, eval e X.env) :: backTo pos (starEach [] X.env))) _ _ s
  refine Calls.spliced_cons (thn (he.run pins s σ H _ I h) fun u s1 ⟨v, H1, I1, r1, q1⟩ => ?_)
  refine Calls.spliced_nil ⟨I1.kIn, ?_⟩
  exact run_x Z T iC tI F1 hr (rest := [u]) (kw := []) (by show 1 ≤ sizeLine; decide) (fun s a hK => by
    have z := hb s [a, u] hK rfl
    exact z) I1 r1 q1
theorem pe_xmkN (Z : Fam nB newId nInit iB initId nTail tail) {C fI : Addr} {fd : FuncData} {k : Nat} {f x : Str} {e : Expr} {te : TE} {p pos kpos : Pos} (T : XC X.K C newId tail) (iC : PySem.W.findIn X.K (.ref C) "__init__" = some (some (.ref fI)))
    (tI : PySem.W.typeIn X.K (.ref fI) = some (.type "function")) (F1 : FnOk X.prog X.w X.K X.mg X.base CX0 k fI fd ["self", f] (spXInit C f)) (hr : Room (k + 1) X.A)
    (hb : ∀ (s : Shared) (a u : Value), X.K.In s.heap → BindsTo s fd ⟨[a], [(f, u)]⟩ ((["self", f] : List Str).zip [a, u])) (hg : Gl X x) (hm : X.mg x = some (.ref C))
    (he : PE X e te) (hall : (backToKw pos (keywordEach [⟨some f, e, kpos⟩] X.env)).all (·.1.isSome) = true := by rfl) (hks : (backToKw pos (keywordEach [⟨some f, e, kpos⟩] X.env)).filterMap (·.1) = [f] := by rfl) (hdb : (x == ("__debug__" : Str)) = false := by decide)
    (hpl : ((backTo pos (starEach [] X.env)).any (·.1) || (backToKw pos (keywordEach [⟨some f, e, kpos⟩] X.env)).any (·.1.isNone)) = false := by rfl) :
    PE X (.Call (.Name x p) [] [⟨some f, e, kpos⟩] pos) (tXMk C f te) := by
  refine ⟨fun pins s σ H Q I h => ?_⟩
  refine wpAny_Call_Name_kw (ld_glob I hg hm ?_ hdb)
  refine PySem.W.callWith_KW0 (h₀ := X.base) I.ok.mod.kin T.kC hall ?_ hpl
  refine thn ((pk_cons (nm := some f) (kpos := kpos) he pk_nil).run pos pins s σ H (fun zs H1 => match zs with
    | [v] => ∀ (e dx : Addr) (H2 : Hp), Same H1 H2 → H1 e = none → H1 dx = none → XAt H2 e C dx f v → Q (.ref e) H2
    | _ => False) I h) fun ws s2 ⟨zs, H2, I2, rz, q2⟩ => ⟨I2.kIn, ?_⟩
  rw [hks]
  match zs, rz, q2 with
  | [v], rz, q2 =>
    obtain ⟨u, rfl, rv⟩ := vals1 rz
    exact run_x Z T iC tI F1 hr (rest := []) (kw := [(f, u)]) (Nat.zero_le _) (fun s a hK => hb s a u hK) I2 rv q2
end
end Vk
namespace Vk
open PySem L2
/-- an exception object stands at a: without a dict, or with one -/
inductive XObj (H : Hp) (a C : Addr) : Prop where
  | bare (h : H a = some (ExO (.ref C) a)) : XObj H a C
  | full {dx : Addr} {fs : List (Str × V)} (h : H a = some (exo a C (some dx))) (hd : H dx = some (exd dx fs)) : XObj H a C
theorem XAt.obj {H : Hp} {a C dx : Addr} {f : Str} {v : V} (h : XAt H a C dx f v) : XObj H a C := by
  obtain ⟨_, h1, h2⟩ := h
  exact .full h1 h2
/-- the two facts of every class -/
structure XG (K : PySem.W.Frag) : Prop where
  cn : PySem.W.specialIn K (.builtin "object.__class__") "__get__" = some (some (.builtin "getset_descriptor.__get__"))
  ct : PySem.W.takesIn K (.builtin "object.__class__") = some true
section
variable {X : Cx} {pins : List (Addr × Obj)} {σ : St} {H : Hp} {s : Shared} {newId : String} {tail : List Value}
theorem exd_look {dx : Addr} {fs : List (Str × V)} (I : Inv X pins σ H s) (h : H dx = some (exd dx fs)) : ∃ od, s.heap.get? dx = some od ∧ ∀ f, ∃ m, PySem.W.lookIn f od = some m ∧ RelO (fs.lookup f) m := by
  obtain ⟨mA, hn, hr⟩ := exd_at I.hok h
  obtain ⟨od, ho, hl⟩ := lookIn_ns hn
  exact ⟨od, ho, fun f => ⟨mA f, hl f, hr f⟩⟩
theorem XObj.inst {a C : Addr} (I : Inv X pins σ H s) (h : XObj H a C) : ∃ ox od, PySem.W.InstAt s.heap a ox C od := by
  cases h with
  | bare h =>
    obtain ⟨⟨oe, vs, e, z, d, _⟩, _⟩ := I.hok _ _ h
    exact ⟨oe, none, e, z.1, by unfold PySem.W.notCls; rw [d] <;> rfl, by rw [z.2]; exact True.intro⟩
  | full h hd =>
    obtain ⟨t1, e⟩ := exo_at I.hok h
    obtain ⟨od, ho, _⟩ := exd_look I hd
    exact ⟨_, some od, e, rfl, rfl, ho⟩
theorem call_isX (G : XG X.K) : CallR X (.builtin "isinstance") (fun xs H Q => ∃ (a C : Addr) (nid : String) (tl : List Value) (c : V) (u : Value) (b : Bool), xs = [.ref a, c] ∧ XObj H a C ∧ XC X.K C nid tl ∧ ClsV c u ∧ PySem.W.kitOne X.K (.ref C) u = some b ∧ Q (.bl b) H) := by
  intro pins s σ H xs us Q I r h
  obtain ⟨a, C, nid, tl, c, u, b, rfl, xo, T, k, e, q⟩ := h
  obtain ⟨u1, u2, rfl, r1, r2⟩ := vals2 r
  have e2 := k.eq r2
  subst e2
  obtain rfl : u1 = Value.ref a := r1
  obtain ⟨ox, od, J⟩ := xo.inst I
  have cl : (PySem.W.clsIn X.K C).isSome = true := by
    obtain ⟨nm, q', N, bs, bm, sn, sub, ab, col, dd, k0, k1, k2, k3, k5, cl, up⟩ := T.cls
    unfold PySem.W.clsIn
    rw [cl] <;> rfl
  exact PySem.W.kia_one (PySem.W.kitx_exc (ox := ox) (od := od) cl T.ga T.gg T.exC T.ca G.cn G.ct T.mo) I.kIn J e (fun z => nomatch z) fun tk => ⟨.bl b, H, I.tok tk, rfl, q⟩
/-- e.f, the field of an exception -/
def tXGet (K : PySem.W.Frag) (te : TE) (f : Str) : TE := fun σ H Q => te σ H fun x H1 => ∃ (a C dx : Addr) (nid : String) (tl : List Value) (v : V), x = .ref a ∧ XAt H1 a C dx f v ∧ XC K C nid tl ∧ PySem.W.findIn K (.ref C) f = some none ∧ Q v H1
theorem pe_xget {e : Expr} {te : TE} {f : Str} {pos : Pos} (he : PE X e te) (hb : attributeBase e f X.env (eval e X.env) = eval e X.env := by rfl) : PE X (.Attribute e f pos) (tXGet X.K te f) := by
  refine ⟨fun pins s σ H Q I h => ?_⟩
  refine attr_of hb (thn (he.run pins s σ H _ I h) fun u s1 hh => ?_)
  obtain ⟨x, H1, I1, rx, a, C, dx, nid, tl, v, ex, ⟨_, h1, h2⟩, T, hno, q⟩ := hh
  subst ex
  obtain rfl : u = Value.ref a := rx
  obtain ⟨t1, ea⟩ := exo_at I1.hok h1
  obtain ⟨od, ho, lk⟩ := exd_look I1 h2
  obtain ⟨m, hm, rm⟩ := lk f
  have l : List.lookup f [(f, v)] = some v := by simp [List.lookup]
  rw [l] at rm
  obtain ⟨u, rfl, ru⟩ : ∃ u, m = some u ∧ RelV v u := by
    cases m with
    | none => exact rm.elim
    | some u => exact ⟨u, rfl, rm⟩
  have J : PySem.W.InstAt s1.heap a _ C (some od) := ⟨ea, rfl, rfl, ho⟩
  exact HandSPX.exc_get I1.kIn J T.ga T.gg T.exC (PySem.W.findObj_own T.hd hno rfl hm) (handed_of ru) ⟨v, H1, I1.tok _, ru, q⟩
/-- C(), an own exception class without __init__ -/
theorem pe_xbare {C : Addr} {bmB : List Value} {B nid initId : String} {x : Str} {p pos : Pos} (F : ExcBaseFacts B nid initId bmB) (q : PySem.W.excIn X.K C bmB nid = true) (gC : X.mg x = some (.ref C)) (kC : PySem.W.keepIn X.K (.ref C) = true) (hg : Gl X x)
    (hdb : (x == ("__debug__" : Str)) = false := by decide) : PE X (.Call (.Name x p) [] [] pos) (fun _ H Q => ∀ a, H a = none → Q (.ref a) (upd H a (ExO (.ref C) a))) := by
  refine ⟨fun pins s σ H Q I h => ?_⟩
  refine wpAny_Call_Name_kw (ld_glob I hg gC ?_ hdb)
  refine PySem.W.callWith_K0 I.kIn kC ?_
  show wpAny _ _ (call (.ref C) []) _ _ _
  obtain ⟨bm, N, nm, qn, bs, hdct, sn, sub, ab, col, dd, k0, k1, k2, k3, k5, mN, hC, hN, hni, T⟩ := exc_obj I.kIn q
  refine wpAny_call_exc_subT F T hC hN hni (fun h' a hm => ?_) (Nat.zero_le _)
  have hn : H a = none := I.hok.gone hm.new
  obtain ⟨t, ht, _, _⟩ := hm.there
  exact ⟨.ref a, upd H a (ExO (.ref C) a), I.laidN hm.keeps hm.new hn (exO_ok ht ⟨rfl, rfl⟩ rfl rfl rfl (show 4 < 6 by decide)), rfl, h a hn⟩
/-- what gives a new exception with a dict back makes an exception -/
theorem pmk_retX {e : Expr} {te : TE} (hx : X.ex = []) (he : PE X e te) :
    PMk X e (fun σ H Q => te σ H fun x H1 => ∃ (a C dx : Addr) (fs : List (Str × V)), x = .ref a ∧ H1 a = some (exo a C (some dx)) ∧ H1 dx = some (exd dx fs) ∧ dx ≠ a ∧ Fr0 X.H_0 a ∧ Raises X (.ref C) ∧ Q (.ref C) (some dx) (upd (delH H1 a) dx (.xd fs))) := by
  intro pins s σ H Q I h
  refine wpAny_mono (he.run pins s σ H _ I h) (fun u s1 hu => ?_) fun _ _ x => x
  obtain ⟨v, H1, I1, r1, a, C, dx, fs, rfl, ha, hd, ne, h0, hr, q⟩ := hu
  cases r1
  obtain ⟨t1, ho⟩ := exo_at I1.hok ha
  obtain ⟨G, gs, ga, J⟩ := I1.untrack ha h0 hx
  have hd' : delH H1 a dx = some (exd dx fs) := by
    rw [delH_ne ne]
    exact hd
  obtain ⟨mA, hns, rel⟩ := exd_at J.hok hd'
  have J2 := J.write (t' := s1.toks) (x := dx) (e := dx) (o := .xd fs) (by rw [hd']; exact True.intro) (.inl rfl) (fun b u _ e => e) (by obtain ⟨o, es, ep, e, _⟩ := hns; exact ⟨o, e⟩) ⟨mA, hns, rel⟩
  refine ⟨a, _, _, { s1 with heap := G }, upd (delH H1 a) dx (.xd fs), .ref C, some dx, rfl, J2, gs, ga, ho, ⟨rfl, rfl⟩, rfl, rfl, ?_, rfl, I1.bare, hr, q⟩
  rw [upd_ne ne.symm, delH_same]
end
end Vk
namespace Vk
open PySem L2
abbrev sBare : Stmt := top 26
abbrev sMade : Stmt := top 27
abbrev sMadeN : Stmt := top 28
abbrev sHeld : Stmt := top 29
abbrev sMarks : Stmt := top 30
abbrev sDue : Stmt := top 31
abbrev sRaised : Stmt := top 32
abbrev sRaise : Stmt := top 33
abbrev sLaw : Stmt := top 34
/-- the field of the i-th class -/
def fld (i : Nat) : Str := match i with
  | 8 => "change" | 9 => "name" | 10 => "number" | 11 => "numbers" | 12 => "tree" | 13 => "name" | 14 => "row" | 15 => "number" | _ => "name"
/-- the base of a family, as the written part has it -/
structure XBase (K : PySem.W.Frag) (mg : Str → Option Value) (x : Str) (T : Addr) (initId : String) : Prop where
  g : mg x = some (.ref T)
  sg : PySem.W.specialIn K (.ref T) "__getattribute__" = some (some (.builtin "type.__getattribute__"))
  ty : PySem.W.typeIn K (.ref T) = some (.type "type")
  rd : PySem.W.readsIn K T (.type "type") = true
  fi : PySem.W.findCls K (.ref T) (.type "type") "__init__" = some (.val (.builtin initId))
abbrev sI8 : Stmt := inClass (top 4) 0
abbrev sI9 : Stmt := inClass (top 11) 0
abbrev sI10 : Stmt := inClass (top 12) 0
abbrev sI11 : Stmt := inClass (top 13) 0
abbrev sI12 : Stmt := inClass (top 14) 0
abbrev sI13 : Stmt := inClass (top 16) 0
abbrev sI14 : Stmt := inClass (top 17) 0
abbrev sI15 : Stmt := inClass (top 18) 0
abbrev sI16 : Stmt := inClass (top 19) 0
section
variable {P : Program} {w : World} {K : PySem.W.Frag} {mg : Str → Option Value} {base : Heap}
theorem scI8 : FnScope ["self", "change"] ["self", "change"] (defScope sI8) := ⟨rfl, rfl, rfl, by decide +kernel, rfl, by decide +kernel, by decide +kernel⟩
theorem ok_init8 {f C T : Addr} {fd : FuncData} (F : Fun K "__init__" "InvalidChange.__init__" sI8 f fd) (X : XC K C "ValueError.__new__" veT) (B : XBase K mg "TurnError" T "ValueError.__init__") (no : PySem.W.findIn K (.ref C) "change" = some none) :
    FnOk P w K mg base CX0 1 f fd ["self", "change"] (spXInit C "change") := by
  refine F.ok scI8 (fun vs H Q E h => ?_) (fun cdv A outer s H vs Q E hr h => ?_)
  · obtain ⟨e, v, rfl, _⟩ := h
    rfl
  · obtain ⟨e, v, rfl, he, k⟩ := h
    refine ⟨_, pss_cons (ps_expr (pe_binit famV rfl B.g B.sg B.ty B.rd B.fi (by decide +kernel) (pa_cons (pv 0) (pa_cons pe_str pa_nil)))) (pss_one (ps_xst famV (pv 0) (pv 1))), ?_⟩
    exact ⟨_, rfl, e, C, _, rfl, (by show 1 ≤ 1000; decide), X, he, _, rfl, _, rfl, e, C, rfl, X, no, he, k⟩
theorem scI9 : FnScope ["self", "name"] ["self", "name"] (defScope sI9) := ⟨rfl, rfl, rfl, by decide +kernel, rfl, by decide +kernel, by decide +kernel⟩
theorem ok_init9 {f C T : Addr} {fd : FuncData} (F : Fun K "__init__" "NameTaken.__init__" sI9 f fd) (X : XC K C "ValueError.__new__" veT) (B : XBase K mg "TurnError" T "ValueError.__init__") (no : PySem.W.findIn K (.ref C) "name" = some none) :
    FnOk P w K mg base CX0 1 f fd ["self", "name"] (spXInit C "name") := by
  refine F.ok scI9 (fun vs H Q E h => ?_) (fun cdv A outer s H vs Q E hr h => ?_)
  · obtain ⟨e, v, rfl, _⟩ := h
    rfl
  · obtain ⟨e, v, rfl, he, k⟩ := h
    refine ⟨_, pss_cons (ps_expr (pe_binit famV rfl B.g B.sg B.ty B.rd B.fi (by decide +kernel) (pa_cons (pv 0) (pa_cons pe_str pa_nil)))) (pss_one (ps_xst famV (pv 0) (pv 1))), ?_⟩
    exact ⟨_, rfl, e, C, _, rfl, (by show 1 ≤ 1000; decide), X, he, _, rfl, _, rfl, e, C, rfl, X, no, he, k⟩
theorem scI10 : FnScope ["self", "number"] ["self", "number"] (defScope sI10) := ⟨rfl, rfl, rfl, by decide +kernel, rfl, by decide +kernel, by decide +kernel⟩
theorem ok_init10 {f C T : Addr} {fd : FuncData} (F : Fun K "__init__" "Broken.__init__" sI10 f fd) (X : XC K C "ValueError.__new__" veT) (B : XBase K mg "TurnError" T "ValueError.__init__") (no : PySem.W.findIn K (.ref C) "number" = some none) :
    FnOk P w K mg base CX0 1 f fd ["self", "number"] (spXInit C "number") := by
  refine F.ok scI10 (fun vs H Q E h => ?_) (fun cdv A outer s H vs Q E hr h => ?_)
  · obtain ⟨e, v, rfl, _⟩ := h
    rfl
  · obtain ⟨e, v, rfl, he, k⟩ := h
    refine ⟨_, pss_cons (ps_expr (pe_binit famV rfl B.g B.sg B.ty B.rd B.fi (by decide +kernel) (pa_cons (pv 0) (pa_cons pe_str pa_nil)))) (pss_one (ps_xst famV (pv 0) (pv 1))), ?_⟩
    exact ⟨_, rfl, e, C, _, rfl, (by show 1 ≤ 1000; decide), X, he, _, rfl, _, rfl, e, C, rfl, X, no, he, k⟩
theorem scI11 : FnScope ["self", "numbers"] ["self", "numbers"] (defScope sI11) := ⟨rfl, rfl, rfl, by decide +kernel, rfl, by decide +kernel, by decide +kernel⟩
theorem ok_init11 {f C T : Addr} {fd : FuncData} (F : Fun K "__init__" "Barred.__init__" sI11 f fd) (X : XC K C "ValueError.__new__" veT) (B : XBase K mg "TurnError" T "ValueError.__init__") (no : PySem.W.findIn K (.ref C) "numbers" = some none) :
    FnOk P w K mg base CX0 1 f fd ["self", "numbers"] (spXInit C "numbers") := by
  refine F.ok scI11 (fun vs H Q E h => ?_) (fun cdv A outer s H vs Q E hr h => ?_)
  · obtain ⟨e, v, rfl, _⟩ := h
    rfl
  · obtain ⟨e, v, rfl, he, k⟩ := h
    refine ⟨_, pss_cons (ps_expr (pe_binit famV rfl B.g B.sg B.ty B.rd B.fi (by decide +kernel) (pa_cons (pv 0) (pa_cons pe_str pa_nil)))) (pss_one (ps_xst famV (pv 0) (pv 1))), ?_⟩
    exact ⟨_, rfl, e, C, _, rfl, (by show 1 ≤ 1000; decide), X, he, _, rfl, _, rfl, e, C, rfl, X, no, he, k⟩
theorem scI12 : FnScope ["self", "tree"] ["self", "tree"] (defScope sI12) := ⟨rfl, rfl, rfl, by decide +kernel, rfl, by decide +kernel, by decide +kernel⟩
theorem ok_init12 {f C T : Addr} {fd : FuncData} (F : Fun K "__init__" "NoOrder.__init__" sI12 f fd) (X : XC K C "ValueError.__new__" veT) (B : XBase K mg "TurnError" T "ValueError.__init__") (no : PySem.W.findIn K (.ref C) "tree" = some none) :
    FnOk P w K mg base CX0 1 f fd ["self", "tree"] (spXInit C "tree") := by
  refine F.ok scI12 (fun vs H Q E h => ?_) (fun cdv A outer s H vs Q E hr h => ?_)
  · obtain ⟨e, v, rfl, _⟩ := h
    rfl
  · obtain ⟨e, v, rfl, he, k⟩ := h
    refine ⟨_, pss_cons (ps_expr (pe_binit famV rfl B.g B.sg B.ty B.rd B.fi (by decide +kernel) (pa_cons (pv 0) (pa_cons pe_str pa_nil)))) (pss_one (ps_xst famV (pv 0) (pv 1))), ?_⟩
    exact ⟨_, rfl, e, C, _, rfl, (by show 1 ≤ 1000; decide), X, he, _, rfl, _, rfl, e, C, rfl, X, no, he, k⟩
theorem scI13 : FnScope ["self", "name"] ["self", "name"] (defScope sI13) := ⟨rfl, rfl, rfl, by decide +kernel, rfl, by decide +kernel, by decide +kernel⟩
theorem ok_init13 {f C T : Addr} {fd : FuncData} (F : Fun K "__init__" "UnknownTable.__init__" sI13 f fd) (X : XC K C "LookupError.__new__" keT) (B : XBase K mg "Unknown" T "KeyError.__init__") (no : PySem.W.findIn K (.ref C) "name" = some none) :
    FnOk P w K mg base CX0 1 f fd ["self", "name"] (spXInit C "name") := by
  refine F.ok scI13 (fun vs H Q E h => ?_) (fun cdv A outer s H vs Q E hr h => ?_)
  · obtain ⟨e, v, rfl, _⟩ := h
    rfl
  · obtain ⟨e, v, rfl, he, k⟩ := h
    refine ⟨_, pss_cons (ps_expr (pe_binit famK rfl B.g B.sg B.ty B.rd B.fi (by decide +kernel) (pa_cons (pv 0) (pa_cons pe_str pa_nil)))) (pss_one (ps_xst famK (pv 0) (pv 1))), ?_⟩
    exact ⟨_, rfl, e, C, _, rfl, (by show 1 ≤ 1000; decide), X, he, _, rfl, _, rfl, e, C, rfl, X, no, he, k⟩
theorem scI14 : FnScope ["self", "row"] ["self", "row"] (defScope sI14) := ⟨rfl, rfl, rfl, by decide +kernel, rfl, by decide +kernel, by decide +kernel⟩
theorem ok_init14 {f C T : Addr} {fd : FuncData} (F : Fun K "__init__" "UnknownRow.__init__" sI14 f fd) (X : XC K C "LookupError.__new__" keT) (B : XBase K mg "Unknown" T "KeyError.__init__") (no : PySem.W.findIn K (.ref C) "row" = some none) :
    FnOk P w K mg base CX0 1 f fd ["self", "row"] (spXInit C "row") := by
  refine F.ok scI14 (fun vs H Q E h => ?_) (fun cdv A outer s H vs Q E hr h => ?_)
  · obtain ⟨e, v, rfl, _⟩ := h
    rfl
  · obtain ⟨e, v, rfl, he, k⟩ := h
    refine ⟨_, pss_cons (ps_expr (pe_binit famK rfl B.g B.sg B.ty B.rd B.fi (by decide +kernel) (pa_cons (pv 0) (pa_cons pe_str pa_nil)))) (pss_one (ps_xst famK (pv 0) (pv 1))), ?_⟩
    exact ⟨_, rfl, e, C, _, rfl, (by show 1 ≤ 1000; decide), X, he, _, rfl, _, rfl, e, C, rfl, X, no, he, k⟩
theorem scI15 : FnScope ["self", "number"] ["self", "number"] (defScope sI15) := ⟨rfl, rfl, rfl, by decide +kernel, rfl, by decide +kernel, by decide +kernel⟩
theorem ok_init15 {f C T : Addr} {fd : FuncData} (F : Fun K "__init__" "UnknownNumber.__init__" sI15 f fd) (X : XC K C "LookupError.__new__" keT) (B : XBase K mg "Unknown" T "KeyError.__init__") (no : PySem.W.findIn K (.ref C) "number" = some none) :
    FnOk P w K mg base CX0 1 f fd ["self", "number"] (spXInit C "number") := by
  refine F.ok scI15 (fun vs H Q E h => ?_) (fun cdv A outer s H vs Q E hr h => ?_)
  · obtain ⟨e, v, rfl, _⟩ := h
    rfl
  · obtain ⟨e, v, rfl, he, k⟩ := h
    refine ⟨_, pss_cons (ps_expr (pe_binit famK rfl B.g B.sg B.ty B.rd B.fi (by decide +kernel) (pa_cons (pv 0) (pa_cons pe_str pa_nil)))) (pss_one (ps_xst famK (pv 0) (pv 1))), ?_⟩
    exact ⟨_, rfl, e, C, _, rfl, (by show 1 ≤ 1000; decide), X, he, _, rfl, _, rfl, e, C, rfl, X, no, he, k⟩
theorem scI16 : FnScope ["self", "name"] ["self", "name"] (defScope sI16) := ⟨rfl, rfl, rfl, by decide +kernel, rfl, by decide +kernel, by decide +kernel⟩
theorem ok_init16 {f C T : Addr} {fd : FuncData} (F : Fun K "__init__" "UnknownReplica.__init__" sI16 f fd) (X : XC K C "LookupError.__new__" keT) (B : XBase K mg "Unknown" T "KeyError.__init__") (no : PySem.W.findIn K (.ref C) "name" = some none) :
    FnOk P w K mg base CX0 1 f fd ["self", "name"] (spXInit C "name") := by
  refine F.ok scI16 (fun vs H Q E h => ?_) (fun cdv A outer s H vs Q E hr h => ?_)
  · obtain ⟨e, v, rfl, _⟩ := h
    rfl
  · obtain ⟨e, v, rfl, he, k⟩ := h
    refine ⟨_, pss_cons (ps_expr (pe_binit famK rfl B.g B.sg B.ty B.rd B.fi (by decide +kernel) (pa_cons (pv 0) (pa_cons pe_str pa_nil)))) (pss_one (ps_xst famK (pv 0) (pv 1))), ?_⟩
    exact ⟨_, rfl, e, C, _, rfl, (by show 1 ≤ 1000; decide), X, he, _, rfl, _, rfl, e, C, rfl, X, no, he, k⟩
end
end Vk
namespace Vk
open PySem L2
def nm (i : Nat) : Str := match i with
  | 0 => "InvalidTable"
  | 1 => "InvalidStore"
  | 2 => "InvalidQuestion"
  | 3 => "InvalidForm"
  | 4 => "InvalidText"
  | 5 => "InvalidCommand"
  | 6 => "InvalidShape"
  | 7 => "Full"
  | 8 => "InvalidChange"
  | 9 => "NameTaken"
  | 10 => "Broken"
  | 11 => "Barred"
  | 12 => "NoOrder"
  | 13 => "UnknownTable"
  | 14 => "UnknownRow"
  | 15 => "UnknownNumber"
  | 16 => "UnknownReplica"
  | _ => ""
def nidOf (i : Nat) : String := if i < 13 then "ValueError.__new__" else "LookupError.__new__"
def tlOf (i : Nat) : List Value := if i < 13 then veT else keT
def flag (b : Bool) : PyData := .bool b
def dueD (i : Nat) : PyData := .tuple [.list ((List.range 17).map fun j => flag (decide (j = i))), .list [flag (decide (i < 13)), flag (decide (i < 13))], .list [flag (!decide (i < 13)), flag (!decide (i < 13))]]
/-- what the written part says of all the classes -/
structure TxtX (K : PySem.W.Frag) (mg : Str → Option Value) (cs fi : Nat → Addr) (tT uT : Addr) : Prop where
  g : ∀ i, i < 17 → mg (nm i) = some (.ref (cs i))
  x : ∀ i, i < 17 → XC K (cs i) (nidOf i) (tlOf i)
  no : ∀ i, 8 ≤ i → i < 17 → PySem.W.findIn K (.ref (cs i)) (fld i) = some none
  iC : ∀ i, 8 ≤ i → i < 17 → PySem.W.findIn K (.ref (cs i)) "__init__" = some (some (.ref (fi i)))
  tI : ∀ i, 8 ≤ i → i < 17 → PySem.W.typeIn K (.ref (fi i)) = some (.type "function")
  q : ∀ i, i < 8 → PySem.W.excIn K (cs i) veT "ValueError.__new__" = true
  ko : ∀ i j, i < 17 → j < 17 → PySem.W.kitOne K (.ref (cs i)) (.ref (cs j)) = some (decide (j = i))
  kT : ∀ i, i < 17 → PySem.W.kitOne K (.ref (cs i)) (.ref tT) = some (decide (i < 13))
  kU : ∀ i, i < 17 → PySem.W.kitOne K (.ref (cs i)) (.ref uT) = some (!decide (i < 13))
  kV : ∀ i, i < 17 → PySem.W.kitOne K (.ref (cs i)) (.type "ValueError") = some (decide (i < 13))
  kK : ∀ i, i < 17 → PySem.W.kitOne K (.ref (cs i)) (.type "KeyError") = some (!decide (i < 13))
  G : XG K
  bT : XBase K mg "TurnError" tT "ValueError.__init__"
  bU : XBase K mg "Unknown" uT "KeyError.__init__"
  isi : mg "isinstance" = none
  ve : mg "ValueError" = none
  ke : mg "KeyError" = none
  range : mg "range" = none
  repr : mg "repr" = none
/-- the nine own __init__s -/
def Inits (P : Program) (w : World) (K : PySem.W.Frag) (mg : Str → Option Value) (base : Heap) (cs fi : Nat → Addr) (fd : Nat → FuncData) : Prop :=
  ∀ i, 8 ≤ i → i < 17 → FnOk P w K mg base CX0 1 (fi i) (fd i) ["self", fld i] (spXInit (cs i) (fld i)) ∧ Binds K (fd i) ["self", fld i] [] ∧
    ∀ (s : Shared) (a u : Value), K.In s.heap → BindsTo s (fd i) ⟨[a], [(fld i, u)]⟩ ((["self", fld i] : List Str).zip [a, u])
def spBare (cs : Nat → Addr) : Sp := fun vs H Q _ => ∃ i : Nat, vs = [.int i] ∧ i < 8 ∧ ∀ (e : Addr) (H' : Hp), Same H H' → H e = none → XObj H' e (cs i) → Q (.ref e) H'
def spMade (cs : Nat → Addr) : Sp := fun vs H Q _ => ∃ (i : Nat) (v : V), vs = [.int i, v] ∧ 8 ≤ i ∧ i < 17 ∧ ∀ (e dx : Addr) (H' : Hp), Same H H' → H e = none → H dx = none → XAt H' e (cs i) dx (fld i) v → Q (.ref e) H'
def spHeld (cs : Nat → Addr) : Sp := fun vs H Q _ => ∃ (i : Nat) (e dx : Addr) (v : V), vs = [.int i, .ref e] ∧ 8 ≤ i ∧ i < 17 ∧ XAt H e (cs i) dx (fld i) v ∧ ∀ H', Same H H' → Q v H'
def spMarks (K : PySem.W.Frag) (cs : Nat → Addr) : Sp := fun vs H Q _ => ∃ (e : Addr) (i : Nat), vs = [.ref e] ∧ i < 17 ∧ XObj H e (cs i) ∧ ∀ (p : Addr) (H' : Hp), Same H H' → Dp K H' (.ref p) (dueD i) → Q (.ref p) H'
def spDue (K : PySem.W.Frag) : Sp := fun vs H Q _ => ∃ i : Nat, vs = [.int i] ∧ i < 17 ∧ ∀ (p : Addr) (H' : Hp), Same H H' → Dp K H' (.ref p) (dueD i) → Q (.ref p) H'
theorem XAt.keep {H H' : Hp} {e C dx : Addr} {f : Str} {v : V} (h : XAt H e C dx f v) (k : Same H H') : XAt H' e C dx f v := by
  obtain ⟨n, h1, h2⟩ := h
  exact ⟨n, k _ _ h1, k _ _ h2⟩
theorem XObj.keep {H H' : Hp} {e C : Addr} (h : XObj H e C) (k : Same H H') : XObj H' e C := by
  cases h with
  | bare h => exact .bare (k _ _ h)
  | full h hd => exact .full (k _ _ h) (k _ _ hd)
theorem same_upd {H : Hp} {a : Addr} {o : HO} (h : H a = none) : Same H (upd H a o) := fun b u e => by
  rw [upd_ne (ne_of_none e h)]
  exact e
theorem int_eq {i : Nat} {k : Int} (h : V.int (i : Int) = V.int k) : (i : Int) = k := by
  injection h
section
variable {P : Program} {w : World} {K : PySem.W.Frag} {mg : Str → Option Value} {base : Heap} {cs fi : Nat → Addr} {fdi : Nat → FuncData} {tT uT : Addr}
theorem scBare : FnScope ["_law_which"] ["_law_which"] (defScope sBare) := ⟨rfl, rfl, rfl, by decide +kernel, rfl, by decide +kernel, by decide +kernel⟩
theorem ok_bare {f : Addr} {fd : FuncData} (F : Fun K "_law_bare" "_law_bare" sBare f fd) (T : TxtX K mg cs fi tT uT) : FnOk P w K mg base CX0 1 f fd ["_law_which"] (spBare cs) := by
  refine F.ok scBare (fun vs H Q E h => ?_) (fun cdv A outer s H vs Q E hr h => ?_)
  · obtain ⟨i, rfl, _⟩ := h
    rfl
  · obtain ⟨i, rfl, hi, k⟩ := h
    refine ⟨_, pss_cons (ps_if (pt_cmpR op_eq (pv 0) pe_int (nomark _)) (pss_one (ps_ret (pe_xbare PySem.F.excBase_ValueError (T.q 0 (by decide)) (T.g 0 (by decide)) (T.x 0 (by decide)).kC rfl))) pss_nil)
      (pss_cons (ps_if (pt_cmpR op_eq (pv 0) pe_int (nomark _)) (pss_one (ps_ret (pe_xbare PySem.F.excBase_ValueError (T.q 1 (by decide)) (T.g 1 (by decide)) (T.x 1 (by decide)).kC rfl))) pss_nil)
      (pss_cons (ps_if (pt_cmpR op_eq (pv 0) pe_int (nomark _)) (pss_one (ps_ret (pe_xbare PySem.F.excBase_ValueError (T.q 2 (by decide)) (T.g 2 (by decide)) (T.x 2 (by decide)).kC rfl))) pss_nil)
      (pss_cons (ps_if (pt_cmpR op_eq (pv 0) pe_int (nomark _)) (pss_one (ps_ret (pe_xbare PySem.F.excBase_ValueError (T.q 3 (by decide)) (T.g 3 (by decide)) (T.x 3 (by decide)).kC rfl))) pss_nil)
      (pss_cons (ps_if (pt_cmpR op_eq (pv 0) pe_int (nomark _)) (pss_one (ps_ret (pe_xbare PySem.F.excBase_ValueError (T.q 4 (by decide)) (T.g 4 (by decide)) (T.x 4 (by decide)).kC rfl))) pss_nil)
      (pss_cons (ps_if (pt_cmpR op_eq (pv 0) pe_int (nomark _)) (pss_one (ps_ret (pe_xbare PySem.F.excBase_ValueError (T.q 5 (by decide)) (T.g 5 (by decide)) (T.x 5 (by decide)).kC rfl))) pss_nil)
      (pss_cons (ps_if (pt_cmpR op_eq (pv 0) pe_int (nomark _)) (pss_one (ps_ret (pe_xbare PySem.F.excBase_ValueError (T.q 6 (by decide)) (T.g 6 (by decide)) (T.x 6 (by decide)).kC rfl))) pss_nil)
      (pss_one (ps_ret (pe_xbare PySem.F.excBase_ValueError (T.q 7 (by decide)) (T.g 7 (by decide)) (T.x 7 (by decide)).kC rfl))))))))), ?_⟩
    refine ⟨_, rfl, rfl, _, rfl, ?_⟩
    refine ite_ (fun hk => ?_) (fun hk0 => ?_)
    · have e := int_eq hk
      obtain rfl : i = 0 := by omega
      exact fun a ha => k a _ (same_upd ha) ha (.bare upd_same)
    refine ⟨_, rfl, rfl, _, rfl, ?_⟩
    refine ite_ (fun hk => ?_) (fun hk1 => ?_)
    · have e := int_eq hk
      obtain rfl : i = 1 := by omega
      exact fun a ha => k a _ (same_upd ha) ha (.bare upd_same)
    refine ⟨_, rfl, rfl, _, rfl, ?_⟩
    refine ite_ (fun hk => ?_) (fun hk2 => ?_)
    · have e := int_eq hk
      obtain rfl : i = 2 := by omega
      exact fun a ha => k a _ (same_upd ha) ha (.bare upd_same)
    refine ⟨_, rfl, rfl, _, rfl, ?_⟩
    refine ite_ (fun hk => ?_) (fun hk3 => ?_)
    · have e := int_eq hk
      obtain rfl : i = 3 := by omega
      exact fun a ha => k a _ (same_upd ha) ha (.bare upd_same)
    refine ⟨_, rfl, rfl, _, rfl, ?_⟩
    refine ite_ (fun hk => ?_) (fun hk4 => ?_)
    · have e := int_eq hk
      obtain rfl : i = 4 := by omega
      exact fun a ha => k a _ (same_upd ha) ha (.bare upd_same)
    refine ⟨_, rfl, rfl, _, rfl, ?_⟩
    refine ite_ (fun hk => ?_) (fun hk5 => ?_)
    · have e := int_eq hk
      obtain rfl : i = 5 := by omega
      exact fun a ha => k a _ (same_upd ha) ha (.bare upd_same)
    refine ⟨_, rfl, rfl, _, rfl, ?_⟩
    refine ite_ (fun hk => ?_) (fun hk6 => ?_)
    · have e := int_eq hk
      obtain rfl : i = 6 := by omega
      exact fun a ha => k a _ (same_upd ha) ha (.bare upd_same)
    have far : i = 7 := by
      have n0 : i ≠ 0 := fun e => hk0 (by rw [e]; rfl)
      have n1 : i ≠ 1 := fun e => hk1 (by rw [e]; rfl)
      have n2 : i ≠ 2 := fun e => hk2 (by rw [e]; rfl)
      have n3 : i ≠ 3 := fun e => hk3 (by rw [e]; rfl)
      have n4 : i ≠ 4 := fun e => hk4 (by rw [e]; rfl)
      have n5 : i ≠ 5 := fun e => hk5 (by rw [e]; rfl)
      have n6 : i ≠ 6 := fun e => hk6 (by rw [e]; rfl)
      omega
    subst far
    exact fun a ha => k a _ (same_upd ha) ha (.bare upd_same)
theorem sc_made : FnScope ["_law_which", "_law_it"] ["_law_which", "_law_it"] (defScope sMade) := ⟨rfl, rfl, rfl, by decide +kernel, rfl, by decide +kernel, by decide +kernel⟩
theorem ok_made {f : Addr} {fd : FuncData} (F : Fun K "_law_made" "_law_made" sMade f fd) (T : TxtX K mg cs fi tT uT) (G : Inits P w K mg base cs fi fdi) : FnOk P w K mg base CX0 3 f fd ["_law_which", "_law_it"] (spMade cs) := by
  refine F.ok sc_made (fun vs H Q E h => ?_) (fun cdv A outer s H vs Q E hr h => ?_)
  · obtain ⟨i, v, rfl, _⟩ := h
    rfl
  · obtain ⟨i, v, rfl, hi, hi', k⟩ := h
    refine ⟨_, pss_cons (ps_if (pt_cmpR op_eq (pv 0) pe_int (nomark _)) (pss_one (ps_ret (pe_xmk famV (T.x 8 (by decide)) (T.iC 8 (by decide) (by decide)) (T.tI 8 (by decide) (by decide)) (G 8 (by decide) (by decide)).1 hr (G 8 (by decide) (by decide)).2.1 rfl (T.g 8 (by decide)) (pv 1)))) pss_nil)
      (pss_cons (ps_if (pt_cmpR op_eq (pv 0) pe_int (nomark _)) (pss_one (ps_ret (pe_xmk famV (T.x 9 (by decide)) (T.iC 9 (by decide) (by decide)) (T.tI 9 (by decide) (by decide)) (G 9 (by decide) (by decide)).1 hr (G 9 (by decide) (by decide)).2.1 rfl (T.g 9 (by decide)) (pv 1)))) pss_nil)
      (pss_cons (ps_if (pt_cmpR op_eq (pv 0) pe_int (nomark _)) (pss_one (ps_ret (pe_xmk famV (T.x 10 (by decide)) (T.iC 10 (by decide) (by decide)) (T.tI 10 (by decide) (by decide)) (G 10 (by decide) (by decide)).1 hr (G 10 (by decide) (by decide)).2.1 rfl (T.g 10 (by decide)) (pv 1)))) pss_nil)
      (pss_cons (ps_if (pt_cmpR op_eq (pv 0) pe_int (nomark _)) (pss_one (ps_ret (pe_xmk famV (T.x 11 (by decide)) (T.iC 11 (by decide) (by decide)) (T.tI 11 (by decide) (by decide)) (G 11 (by decide) (by decide)).1 hr (G 11 (by decide) (by decide)).2.1 rfl (T.g 11 (by decide)) (pv 1)))) pss_nil)
      (pss_cons (ps_if (pt_cmpR op_eq (pv 0) pe_int (nomark _)) (pss_one (ps_ret (pe_xmk famV (T.x 12 (by decide)) (T.iC 12 (by decide) (by decide)) (T.tI 12 (by decide) (by decide)) (G 12 (by decide) (by decide)).1 hr (G 12 (by decide) (by decide)).2.1 rfl (T.g 12 (by decide)) (pv 1)))) pss_nil)
      (pss_cons (ps_if (pt_cmpR op_eq (pv 0) pe_int (nomark _)) (pss_one (ps_ret (pe_xmk famK (T.x 13 (by decide)) (T.iC 13 (by decide) (by decide)) (T.tI 13 (by decide) (by decide)) (G 13 (by decide) (by decide)).1 hr (G 13 (by decide) (by decide)).2.1 rfl (T.g 13 (by decide)) (pv 1)))) pss_nil)
      (pss_cons (ps_if (pt_cmpR op_eq (pv 0) pe_int (nomark _)) (pss_one (ps_ret (pe_xmk famK (T.x 14 (by decide)) (T.iC 14 (by decide) (by decide)) (T.tI 14 (by decide) (by decide)) (G 14 (by decide) (by decide)).1 hr (G 14 (by decide) (by decide)).2.1 rfl (T.g 14 (by decide)) (pv 1)))) pss_nil)
      (pss_cons (ps_if (pt_cmpR op_eq (pv 0) pe_int (nomark _)) (pss_one (ps_ret (pe_xmk famK (T.x 15 (by decide)) (T.iC 15 (by decide) (by decide)) (T.tI 15 (by decide) (by decide)) (G 15 (by decide) (by decide)).1 hr (G 15 (by decide) (by decide)).2.1 rfl (T.g 15 (by decide)) (pv 1)))) pss_nil)
      (pss_one (ps_ret (pe_xmk famK (T.x 16 (by decide)) (T.iC 16 (by decide) (by decide)) (T.tI 16 (by decide) (by decide)) (G 16 (by decide) (by decide)).1 hr (G 16 (by decide) (by decide)).2.1 rfl (T.g 16 (by decide)) (pv 1))))))))))), ?_⟩
    refine ⟨_, rfl, rfl, _, rfl, ?_⟩
    refine ite_ (fun hk => ?_) (fun hk8 => ?_)
    · have e := int_eq hk
      obtain rfl : i = 8 := by omega
      exact ⟨_, rfl, fun e dx H2 s2 ne nd xa => k e dx H2 s2 ne nd xa⟩
    refine ⟨_, rfl, rfl, _, rfl, ?_⟩
    refine ite_ (fun hk => ?_) (fun hk9 => ?_)
    · have e := int_eq hk
      obtain rfl : i = 9 := by omega
      exact ⟨_, rfl, fun e dx H2 s2 ne nd xa => k e dx H2 s2 ne nd xa⟩
    refine ⟨_, rfl, rfl, _, rfl, ?_⟩
    refine ite_ (fun hk => ?_) (fun hk10 => ?_)
    · have e := int_eq hk
      obtain rfl : i = 10 := by omega
      exact ⟨_, rfl, fun e dx H2 s2 ne nd xa => k e dx H2 s2 ne nd xa⟩
    refine ⟨_, rfl, rfl, _, rfl, ?_⟩
    refine ite_ (fun hk => ?_) (fun hk11 => ?_)
    · have e := int_eq hk
      obtain rfl : i = 11 := by omega
      exact ⟨_, rfl, fun e dx H2 s2 ne nd xa => k e dx H2 s2 ne nd xa⟩
    refine ⟨_, rfl, rfl, _, rfl, ?_⟩
    refine ite_ (fun hk => ?_) (fun hk12 => ?_)
    · have e := int_eq hk
      obtain rfl : i = 12 := by omega
      exact ⟨_, rfl, fun e dx H2 s2 ne nd xa => k e dx H2 s2 ne nd xa⟩
    refine ⟨_, rfl, rfl, _, rfl, ?_⟩
    refine ite_ (fun hk => ?_) (fun hk13 => ?_)
    · have e := int_eq hk
      obtain rfl : i = 13 := by omega
      exact ⟨_, rfl, fun e dx H2 s2 ne nd xa => k e dx H2 s2 ne nd xa⟩
    refine ⟨_, rfl, rfl, _, rfl, ?_⟩
    refine ite_ (fun hk => ?_) (fun hk14 => ?_)
    · have e := int_eq hk
      obtain rfl : i = 14 := by omega
      exact ⟨_, rfl, fun e dx H2 s2 ne nd xa => k e dx H2 s2 ne nd xa⟩
    refine ⟨_, rfl, rfl, _, rfl, ?_⟩
    refine ite_ (fun hk => ?_) (fun hk15 => ?_)
    · have e := int_eq hk
      obtain rfl : i = 15 := by omega
      exact ⟨_, rfl, fun e dx H2 s2 ne nd xa => k e dx H2 s2 ne nd xa⟩
    have far : i = 16 := by
      have n8 : i ≠ 8 := fun e => hk8 (by rw [e]; rfl)
      have n9 : i ≠ 9 := fun e => hk9 (by rw [e]; rfl)
      have n10 : i ≠ 10 := fun e => hk10 (by rw [e]; rfl)
      have n11 : i ≠ 11 := fun e => hk11 (by rw [e]; rfl)
      have n12 : i ≠ 12 := fun e => hk12 (by rw [e]; rfl)
      have n13 : i ≠ 13 := fun e => hk13 (by rw [e]; rfl)
      have n14 : i ≠ 14 := fun e => hk14 (by rw [e]; rfl)
      have n15 : i ≠ 15 := fun e => hk15 (by rw [e]; rfl)
      omega
    subst far
    exact ⟨_, rfl, fun e dx H2 s2 ne nd xa => k e dx H2 s2 ne nd xa⟩
theorem sc_madeN : FnScope ["_law_which", "_law_it"] ["_law_which", "_law_it"] (defScope sMadeN) := ⟨rfl, rfl, rfl, by decide +kernel, rfl, by decide +kernel, by decide +kernel⟩
theorem ok_madeN {f : Addr} {fd : FuncData} (F : Fun K "_law_made_by_name" "_law_made_by_name" sMadeN f fd) (T : TxtX K mg cs fi tT uT) (G : Inits P w K mg base cs fi fdi) : FnOk P w K mg base CX0 3 f fd ["_law_which", "_law_it"] (spMade cs) := by
  refine F.ok sc_madeN (fun vs H Q E h => ?_) (fun cdv A outer s H vs Q E hr h => ?_)
  · obtain ⟨i, v, rfl, _⟩ := h
    rfl
  · obtain ⟨i, v, rfl, hi, hi', k⟩ := h
    refine ⟨_, pss_cons (ps_if (pt_cmpR op_eq (pv 0) pe_int (nomark _)) (pss_one (ps_ret (pe_xmkN famV (T.x 8 (by decide)) (T.iC 8 (by decide) (by decide)) (T.tI 8 (by decide) (by decide)) (G 8 (by decide) (by decide)).1 hr (G 8 (by decide) (by decide)).2.2 rfl (T.g 8 (by decide)) (pv 1)))) pss_nil)
      (pss_cons (ps_if (pt_cmpR op_eq (pv 0) pe_int (nomark _)) (pss_one (ps_ret (pe_xmkN famV (T.x 9 (by decide)) (T.iC 9 (by decide) (by decide)) (T.tI 9 (by decide) (by decide)) (G 9 (by decide) (by decide)).1 hr (G 9 (by decide) (by decide)).2.2 rfl (T.g 9 (by decide)) (pv 1)))) pss_nil)
      (pss_cons (ps_if (pt_cmpR op_eq (pv 0) pe_int (nomark _)) (pss_one (ps_ret (pe_xmkN famV (T.x 10 (by decide)) (T.iC 10 (by decide) (by decide)) (T.tI 10 (by decide) (by decide)) (G 10 (by decide) (by decide)).1 hr (G 10 (by decide) (by decide)).2.2 rfl (T.g 10 (by decide)) (pv 1)))) pss_nil)
      (pss_cons (ps_if (pt_cmpR op_eq (pv 0) pe_int (nomark _)) (pss_one (ps_ret (pe_xmkN famV (T.x 11 (by decide)) (T.iC 11 (by decide) (by decide)) (T.tI 11 (by decide) (by decide)) (G 11 (by decide) (by decide)).1 hr (G 11 (by decide) (by decide)).2.2 rfl (T.g 11 (by decide)) (pv 1)))) pss_nil)
      (pss_cons (ps_if (pt_cmpR op_eq (pv 0) pe_int (nomark _)) (pss_one (ps_ret (pe_xmkN famV (T.x 12 (by decide)) (T.iC 12 (by decide) (by decide)) (T.tI 12 (by decide) (by decide)) (G 12 (by decide) (by decide)).1 hr (G 12 (by decide) (by decide)).2.2 rfl (T.g 12 (by decide)) (pv 1)))) pss_nil)
      (pss_cons (ps_if (pt_cmpR op_eq (pv 0) pe_int (nomark _)) (pss_one (ps_ret (pe_xmkN famK (T.x 13 (by decide)) (T.iC 13 (by decide) (by decide)) (T.tI 13 (by decide) (by decide)) (G 13 (by decide) (by decide)).1 hr (G 13 (by decide) (by decide)).2.2 rfl (T.g 13 (by decide)) (pv 1)))) pss_nil)
      (pss_cons (ps_if (pt_cmpR op_eq (pv 0) pe_int (nomark _)) (pss_one (ps_ret (pe_xmkN famK (T.x 14 (by decide)) (T.iC 14 (by decide) (by decide)) (T.tI 14 (by decide) (by decide)) (G 14 (by decide) (by decide)).1 hr (G 14 (by decide) (by decide)).2.2 rfl (T.g 14 (by decide)) (pv 1)))) pss_nil)
      (pss_cons (ps_if (pt_cmpR op_eq (pv 0) pe_int (nomark _)) (pss_one (ps_ret (pe_xmkN famK (T.x 15 (by decide)) (T.iC 15 (by decide) (by decide)) (T.tI 15 (by decide) (by decide)) (G 15 (by decide) (by decide)).1 hr (G 15 (by decide) (by decide)).2.2 rfl (T.g 15 (by decide)) (pv 1)))) pss_nil)
      (pss_one (ps_ret (pe_xmkN famK (T.x 16 (by decide)) (T.iC 16 (by decide) (by decide)) (T.tI 16 (by decide) (by decide)) (G 16 (by decide) (by decide)).1 hr (G 16 (by decide) (by decide)).2.2 rfl (T.g 16 (by decide)) (pv 1))))))))))), ?_⟩
    refine ⟨_, rfl, rfl, _, rfl, ?_⟩
    refine ite_ (fun hk => ?_) (fun hk8 => ?_)
    · have e := int_eq hk
      obtain rfl : i = 8 := by omega
      exact ⟨_, rfl, fun e dx H2 s2 ne nd xa => k e dx H2 s2 ne nd xa⟩
    refine ⟨_, rfl, rfl, _, rfl, ?_⟩
    refine ite_ (fun hk => ?_) (fun hk9 => ?_)
    · have e := int_eq hk
      obtain rfl : i = 9 := by omega
      exact ⟨_, rfl, fun e dx H2 s2 ne nd xa => k e dx H2 s2 ne nd xa⟩
    refine ⟨_, rfl, rfl, _, rfl, ?_⟩
    refine ite_ (fun hk => ?_) (fun hk10 => ?_)
    · have e := int_eq hk
      obtain rfl : i = 10 := by omega
      exact ⟨_, rfl, fun e dx H2 s2 ne nd xa => k e dx H2 s2 ne nd xa⟩
    refine ⟨_, rfl, rfl, _, rfl, ?_⟩
    refine ite_ (fun hk => ?_) (fun hk11 => ?_)
    · have e := int_eq hk
      obtain rfl : i = 11 := by omega
      exact ⟨_, rfl, fun e dx H2 s2 ne nd xa => k e dx H2 s2 ne nd xa⟩
    refine ⟨_, rfl, rfl, _, rfl, ?_⟩
    refine ite_ (fun hk => ?_) (fun hk12 => ?_)
    · have e := int_eq hk
      obtain rfl : i = 12 := by omega
      exact ⟨_, rfl, fun e dx H2 s2 ne nd xa => k e dx H2 s2 ne nd xa⟩
    refine ⟨_, rfl, rfl, _, rfl, ?_⟩
    refine ite_ (fun hk => ?_) (fun hk13 => ?_)
    · have e := int_eq hk
      obtain rfl : i = 13 := by omega
      exact ⟨_, rfl, fun e dx H2 s2 ne nd xa => k e dx H2 s2 ne nd xa⟩
    refine ⟨_, rfl, rfl, _, rfl, ?_⟩
    refine ite_ (fun hk => ?_) (fun hk14 => ?_)
    · have e := int_eq hk
      obtain rfl : i = 14 := by omega
      exact ⟨_, rfl, fun e dx H2 s2 ne nd xa => k e dx H2 s2 ne nd xa⟩
    refine ⟨_, rfl, rfl, _, rfl, ?_⟩
    refine ite_ (fun hk => ?_) (fun hk15 => ?_)
    · have e := int_eq hk
      obtain rfl : i = 15 := by omega
      exact ⟨_, rfl, fun e dx H2 s2 ne nd xa => k e dx H2 s2 ne nd xa⟩
    have far : i = 16 := by
      have n8 : i ≠ 8 := fun e => hk8 (by rw [e]; rfl)
      have n9 : i ≠ 9 := fun e => hk9 (by rw [e]; rfl)
      have n10 : i ≠ 10 := fun e => hk10 (by rw [e]; rfl)
      have n11 : i ≠ 11 := fun e => hk11 (by rw [e]; rfl)
      have n12 : i ≠ 12 := fun e => hk12 (by rw [e]; rfl)
      have n13 : i ≠ 13 := fun e => hk13 (by rw [e]; rfl)
      have n14 : i ≠ 14 := fun e => hk14 (by rw [e]; rfl)
      have n15 : i ≠ 15 := fun e => hk15 (by rw [e]; rfl)
      omega
    subst far
    exact ⟨_, rfl, fun e dx H2 s2 ne nd xa => k e dx H2 s2 ne nd xa⟩
end
end Vk
namespace Vk
open PySem L2
theorem sameT {K : PySem.W.Frag} {H H' : Hp} {a : Addr} {xs : List V} (k : Same H H') (h : SqT K H a xs) : SqT K H' a xs := by
  rcases h with (h | ⟨o, h⟩) | h
  · exact .inl (.inl (k _ _ h))
  · exact .inl (.inr ⟨o, k _ _ h⟩)
  · exact .inr h
mutual
theorem Dp.keep {K : PySem.W.Frag} {H H' : Hp} (k : Same H H') : ∀ {v : V} {d : PyData}, Dp K H v d → Dp K H' v d
  | _, _, .non => .non
  | _, _, .bl b => .bl b
  | _, _, .int i => .int i
  | _, _, .str x => .str x
  | _, _, .lst h r => .lst (k.seq h) (DpAll.keep k r)
  | _, _, .tup h r => .tup (sameT k h) (DpAll.keep k r)
theorem DpAll.keep {K : PySem.W.Frag} {H H' : Hp} (k : Same H H') : ∀ {v : List V} {d : List PyData}, DpAll K H v d → DpAll K H' v d
  | _, _, .nil => .nil
  | _, _, .cons h r => .cons (Dp.keep k h) (DpAll.keep k r)
end
theorem dpFlags (K : PySem.W.Frag) (H : Hp) : ∀ bs : List Bool, DpAll K H (bs.map V.bl) (bs.map flag)
  | [] => .nil
  | b :: r => .cons (.bl b) (dpFlags K H r)
section
variable {P : Program} {w : World} {K : PySem.W.Frag} {mg : Str → Option Value} {base : Heap} {cs fi : Nat → Addr} {fdi : Nat → FuncData} {tT uT : Addr}
theorem scHeld : FnScope ["_law_which", "_law_error"] ["_law_which", "_law_error"] (defScope sHeld) := ⟨rfl, rfl, rfl, by decide +kernel, rfl, by decide +kernel, by decide +kernel⟩
theorem ok_held {f : Addr} {fd : FuncData} (F : Fun K "_law_held" "_law_held" sHeld f fd) (T : TxtX K mg cs fi tT uT) : FnOk P w K mg base CX0 1 f fd ["_law_which", "_law_error"] (spHeld cs) := by
  refine F.ok scHeld (fun vs H Q E h => ?_) (fun cdv A outer s H vs Q E hr h => ?_)
  · obtain ⟨i, e, dx, v, rfl, _⟩ := h
    rfl
  · obtain ⟨i, e, dx, v, rfl, hi, hi', xa, k⟩ := h
    refine ⟨_, pss_cons (ps_if (pt_cmpR op_eq (pv 0) pe_int (nomark _)) (pss_one (ps_ret (pe_xget (pv 1)))) pss_nil)
      (pss_cons (ps_if (pt_cmpR op_in_seq (pv 0) (pe_tup (pa_cons pe_int (pa_cons pe_int (pa_cons pe_int pa_nil)))) (by rfl)) (pss_one (ps_ret (pe_xget (pv 1)))) pss_nil)
      (pss_cons (ps_if (pt_cmpR op_in_seq (pv 0) (pe_tup (pa_cons pe_int (pa_cons pe_int pa_nil))) (by rfl)) (pss_one (ps_ret (pe_xget (pv 1)))) pss_nil)
      (pss_cons (ps_if (pt_cmpR op_eq (pv 0) pe_int (nomark _)) (pss_one (ps_ret (pe_xget (pv 1)))) pss_nil)
      (pss_cons (ps_if (pt_cmpR op_eq (pv 0) pe_int (nomark _)) (pss_one (ps_ret (pe_xget (pv 1)))) pss_nil)
      (pss_one (ps_ret (pe_xget (pv 1)))))))), ?_⟩
    have fin : ∀ (f : Str) (H' : Hp), f = fld i → Same H H' → tXGet K (tVar 1) f [some (.int i), some (.ref e)] H' Q := fun f H' ef s => by
      subst ef
      exact ⟨_, rfl, e, cs i, dx, nidOf i, tlOf i, v, rfl, xa.keep s, T.x i hi', T.no i hi hi', k H' s⟩
    obtain rfl | rfl | rfl | rfl | rfl | rfl | rfl | rfl | rfl : i = 8 ∨ i = 9 ∨ i = 10 ∨ i = 11 ∨ i = 12 ∨ i = 13 ∨ i = 14 ∨ i = 15 ∨ i = 16 := by omega
    · -- 8
      refine ⟨_, rfl, rfl, _, rfl, ?_⟩
      exact ite_ (fun _ => fin "change" _ rfl (fun _ _ e => e)) (fun h => absurd rfl h)
    · -- 9
      refine ⟨_, rfl, rfl, _, rfl, ?_⟩
      refine ite_ (fun h => absurd h (by decide)) (fun _ => ?_)
      refine ⟨_, rfl, (by show 3 ≤ sizeLine; decide), fun p hp => ⟨p, _, rfl, .inr (SqT.of upd_same), rfl, rfl, _, rfl, ?_⟩⟩
      refine iteT ?_
      exact fin "name" _ rfl (same_upd hp)
    · -- 10
      refine ⟨_, rfl, rfl, _, rfl, ?_⟩
      refine ite_ (fun h => absurd h (by decide)) (fun _ => ?_)
      refine ⟨_, rfl, (by show 3 ≤ sizeLine; decide), fun p hp => ⟨p, _, rfl, .inr (SqT.of upd_same), rfl, rfl, _, rfl, ?_⟩⟩
      refine iteF ?_
      refine ⟨_, rfl, (by show 2 ≤ sizeLine; decide), fun q hq => ⟨q, _, rfl, .inr (SqT.of upd_same), rfl, rfl, _, rfl, ?_⟩⟩
      refine iteT ?_
      exact fin "number" _ rfl (fun b o e => same_upd hq b o (same_upd hp b o e))
    · -- 11
      refine ⟨_, rfl, rfl, _, rfl, ?_⟩
      refine ite_ (fun h => absurd h (by decide)) (fun _ => ?_)
      refine ⟨_, rfl, (by show 3 ≤ sizeLine; decide), fun p hp => ⟨p, _, rfl, .inr (SqT.of upd_same), rfl, rfl, _, rfl, ?_⟩⟩
      refine iteF ?_
      refine ⟨_, rfl, (by show 2 ≤ sizeLine; decide), fun q hq => ⟨q, _, rfl, .inr (SqT.of upd_same), rfl, rfl, _, rfl, ?_⟩⟩
      refine iteF ?_
      refine ⟨_, rfl, rfl, _, rfl, ?_⟩
      exact ite_ (fun _ => fin "numbers" _ rfl (fun b o e => same_upd hq b o (same_upd hp b o e))) (fun h => absurd rfl h)
    · -- 12
      refine ⟨_, rfl, rfl, _, rfl, ?_⟩
      refine ite_ (fun h => absurd h (by decide)) (fun _ => ?_)
      refine ⟨_, rfl, (by show 3 ≤ sizeLine; decide), fun p hp => ⟨p, _, rfl, .inr (SqT.of upd_same), rfl, rfl, _, rfl, ?_⟩⟩
      refine iteF ?_
      refine ⟨_, rfl, (by show 2 ≤ sizeLine; decide), fun q hq => ⟨q, _, rfl, .inr (SqT.of upd_same), rfl, rfl, _, rfl, ?_⟩⟩
      refine iteF ?_
      refine ⟨_, rfl, rfl, _, rfl, ?_⟩
      refine ite_ (fun h => absurd h (by decide)) (fun _ => ?_)
      refine ⟨_, rfl, rfl, _, rfl, ?_⟩
      exact ite_ (fun _ => fin "tree" _ rfl (fun b o e => same_upd hq b o (same_upd hp b o e))) (fun h => absurd rfl h)
    · -- 13
      refine ⟨_, rfl, rfl, _, rfl, ?_⟩
      refine ite_ (fun h => absurd h (by decide)) (fun _ => ?_)
      refine ⟨_, rfl, (by show 3 ≤ sizeLine; decide), fun p hp => ⟨p, _, rfl, .inr (SqT.of upd_same), rfl, rfl, _, rfl, ?_⟩⟩
      refine iteT ?_
      exact fin "name" _ rfl (same_upd hp)
    · -- 14
      refine ⟨_, rfl, rfl, _, rfl, ?_⟩
      refine ite_ (fun h => absurd h (by decide)) (fun _ => ?_)
      refine ⟨_, rfl, (by show 3 ≤ sizeLine; decide), fun p hp => ⟨p, _, rfl, .inr (SqT.of upd_same), rfl, rfl, _, rfl, ?_⟩⟩
      refine iteF ?_
      refine ⟨_, rfl, (by show 2 ≤ sizeLine; decide), fun q hq => ⟨q, _, rfl, .inr (SqT.of upd_same), rfl, rfl, _, rfl, ?_⟩⟩
      refine iteF ?_
      refine ⟨_, rfl, rfl, _, rfl, ?_⟩
      refine ite_ (fun h => absurd h (by decide)) (fun _ => ?_)
      refine ⟨_, rfl, rfl, _, rfl, ?_⟩
      refine ite_ (fun h => absurd h (by decide)) (fun _ => ?_)
      exact fin "row" _ rfl (fun b o e => same_upd hq b o (same_upd hp b o e))
    · -- 15
      refine ⟨_, rfl, rfl, _, rfl, ?_⟩
      refine ite_ (fun h => absurd h (by decide)) (fun _ => ?_)
      refine ⟨_, rfl, (by show 3 ≤ sizeLine; decide), fun p hp => ⟨p, _, rfl, .inr (SqT.of upd_same), rfl, rfl, _, rfl, ?_⟩⟩
      refine iteF ?_
      refine ⟨_, rfl, (by show 2 ≤ sizeLine; decide), fun q hq => ⟨q, _, rfl, .inr (SqT.of upd_same), rfl, rfl, _, rfl, ?_⟩⟩
      refine iteT ?_
      exact fin "number" _ rfl (fun b o e => same_upd hq b o (same_upd hp b o e))
    · -- 16
      refine ⟨_, rfl, rfl, _, rfl, ?_⟩
      refine ite_ (fun h => absurd h (by decide)) (fun _ => ?_)
      refine ⟨_, rfl, (by show 3 ≤ sizeLine; decide), fun p hp => ⟨p, _, rfl, .inr (SqT.of upd_same), rfl, rfl, _, rfl, ?_⟩⟩
      refine iteT ?_
      exact fin "name" _ rfl (same_upd hp)
end
end Vk
namespace Vk
open PySem L2
section
variable {P : Program} {w : World} {K : PySem.W.Frag} {mg : Str → Option Value} {base : Heap} {cs fi : Nat → Addr} {fdi : Nat → FuncData} {tT uT : Addr}
theorem scMarks : FnScope ["_law_error", "_law_found", "_law_bases"] ["_law_error"] (defScope sMarks) := ⟨rfl, rfl, rfl, by decide +kernel, rfl, by decide +kernel, by decide +kernel⟩
theorem ok_marks {f : Addr} {fd : FuncData} (F : Fun K "_law_marks" "_law_marks" sMarks f fd) (T : TxtX K mg cs fi tT uT) : FnOk P w K mg base CX0 1 f fd ["_law_error"] (spMarks K cs) := by
  refine F.ok scMarks (fun vs H Q E h => ?_) (fun cdv A outer s H vs Q E hr h => ?_)
  · obtain ⟨e, i, rfl, _⟩ := h
    rfl
  · obtain ⟨e, i, rfl, hi, xo, k⟩ := h
    have o0 : Same H H := Same.refl H
    have x0 := xo
    refine ⟨_, pss_cons (ps_set (i := 1) scMarks.nd rfl (Or.inl rfl) (pe_lst (pa_cons (pe_callB (call_isX T.G) (by rfl) T.isi (by decide +kernel) (pa_cons (pv 0) (pa_cons (pe_glob (v := .ref (cs 0)) rfl (T.g 0 (by decide)) rfl) pa_nil)))
        (pa_cons (pe_callB (call_isX T.G) (by rfl) T.isi (by decide +kernel) (pa_cons (pv 0) (pa_cons (pe_glob (v := .ref (cs 1)) rfl (T.g 1 (by decide)) rfl) pa_nil)))
        (pa_cons (pe_callB (call_isX T.G) (by rfl) T.isi (by decide +kernel) (pa_cons (pv 0) (pa_cons (pe_glob (v := .ref (cs 2)) rfl (T.g 2 (by decide)) rfl) pa_nil)))
        pa_nil)))))
      (pss_cons (ps_set (i := 1) scMarks.nd rfl (Or.inl rfl) (pe_op op_cat (pv 1) (pe_lst (pa_cons (pe_callB (call_isX T.G) (by rfl) T.isi (by decide +kernel) (pa_cons (pv 0) (pa_cons (pe_glob (v := .ref (cs 3)) rfl (T.g 3 (by decide)) rfl) pa_nil)))
        (pa_cons (pe_callB (call_isX T.G) (by rfl) T.isi (by decide +kernel) (pa_cons (pv 0) (pa_cons (pe_glob (v := .ref (cs 4)) rfl (T.g 4 (by decide)) rfl) pa_nil)))
        (pa_cons (pe_callB (call_isX T.G) (by rfl) T.isi (by decide +kernel) (pa_cons (pv 0) (pa_cons (pe_glob (v := .ref (cs 5)) rfl (T.g 5 (by decide)) rfl) pa_nil)))
        pa_nil))))))
      (pss_cons (ps_set (i := 1) scMarks.nd rfl (Or.inl rfl) (pe_op op_cat (pv 1) (pe_lst (pa_cons (pe_callB (call_isX T.G) (by rfl) T.isi (by decide +kernel) (pa_cons (pv 0) (pa_cons (pe_glob (v := .ref (cs 6)) rfl (T.g 6 (by decide)) rfl) pa_nil)))
        (pa_cons (pe_callB (call_isX T.G) (by rfl) T.isi (by decide +kernel) (pa_cons (pv 0) (pa_cons (pe_glob (v := .ref (cs 7)) rfl (T.g 7 (by decide)) rfl) pa_nil)))
        (pa_cons (pe_callB (call_isX T.G) (by rfl) T.isi (by decide +kernel) (pa_cons (pv 0) (pa_cons (pe_glob (v := .ref (cs 8)) rfl (T.g 8 (by decide)) rfl) pa_nil)))
        pa_nil))))))
      (pss_cons (ps_set (i := 1) scMarks.nd rfl (Or.inl rfl) (pe_op op_cat (pv 1) (pe_lst (pa_cons (pe_callB (call_isX T.G) (by rfl) T.isi (by decide +kernel) (pa_cons (pv 0) (pa_cons (pe_glob (v := .ref (cs 9)) rfl (T.g 9 (by decide)) rfl) pa_nil)))
        (pa_cons (pe_callB (call_isX T.G) (by rfl) T.isi (by decide +kernel) (pa_cons (pv 0) (pa_cons (pe_glob (v := .ref (cs 10)) rfl (T.g 10 (by decide)) rfl) pa_nil)))
        (pa_cons (pe_callB (call_isX T.G) (by rfl) T.isi (by decide +kernel) (pa_cons (pv 0) (pa_cons (pe_glob (v := .ref (cs 11)) rfl (T.g 11 (by decide)) rfl) pa_nil)))
        pa_nil))))))
      (pss_cons (ps_set (i := 1) scMarks.nd rfl (Or.inl rfl) (pe_op op_cat (pv 1) (pe_lst (pa_cons (pe_callB (call_isX T.G) (by rfl) T.isi (by decide +kernel) (pa_cons (pv 0) (pa_cons (pe_glob (v := .ref (cs 12)) rfl (T.g 12 (by decide)) rfl) pa_nil)))
        (pa_cons (pe_callB (call_isX T.G) (by rfl) T.isi (by decide +kernel) (pa_cons (pv 0) (pa_cons (pe_glob (v := .ref (cs 13)) rfl (T.g 13 (by decide)) rfl) pa_nil)))
        (pa_cons (pe_callB (call_isX T.G) (by rfl) T.isi (by decide +kernel) (pa_cons (pv 0) (pa_cons (pe_glob (v := .ref (cs 14)) rfl (T.g 14 (by decide)) rfl) pa_nil)))
        pa_nil))))))
      (pss_cons (ps_set (i := 1) scMarks.nd rfl (Or.inl rfl) (pe_op op_cat (pv 1) (pe_lst (pa_cons (pe_callB (call_isX T.G) (by rfl) T.isi (by decide +kernel) (pa_cons (pv 0) (pa_cons (pe_glob (v := .ref (cs 15)) rfl (T.g 15 (by decide)) rfl) pa_nil)))
        (pa_cons (pe_callB (call_isX T.G) (by rfl) T.isi (by decide +kernel) (pa_cons (pv 0) (pa_cons (pe_glob (v := .ref (cs 16)) rfl (T.g 16 (by decide)) rfl) pa_nil)))
        pa_nil)))))
      (pss_cons (ps_set (i := 2) scMarks.nd rfl (Or.inl rfl) (pe_lst (pa_cons (pe_callB (call_isX T.G) (by rfl) T.isi (by decide +kernel) (pa_cons (pv 0) (pa_cons (pe_glob (v := .ref tT) rfl T.bT.g rfl) pa_nil)))
        (pa_cons (pe_callB (call_isX T.G) (by rfl) T.isi (by decide +kernel) (pa_cons (pv 0) (pa_cons (pe_bltn (v := .ty "ValueError") (by rfl) T.ve (by decide +kernel) rfl) pa_nil)))
        pa_nil))))
      (pss_one (ps_ret (pe_tup (pa_cons (pv 1) (pa_cons (pv 2) (pa_cons (pe_lst (pa_cons (pe_callB (call_isX T.G) (by rfl) T.isi (by decide +kernel) (pa_cons (pv 0) (pa_cons (pe_glob (v := .ref uT) rfl T.bU.g rfl) pa_nil)))
        (pa_cons (pe_callB (call_isX T.G) (by rfl) T.isi (by decide +kernel) (pa_cons (pv 0) (pa_cons (pe_bltn (v := .ty "KeyError") (by rfl) T.ke (by decide +kernel) rfl) pa_nil)))
        pa_nil))) pa_nil)))))))))))), ?_⟩
    refine ⟨_, rfl, e, _, _, _, _, _, _, rfl, x0, T.x i hi, .own _, T.ko i 0 hi (by decide), _, rfl, e, _, _, _, _, _, _, rfl, x0, T.x i hi, .own _, T.ko i 1 hi (by decide), _, rfl, e, _, _, _, _, _, _, rfl, x0, T.x i hi, .own _, T.ko i 2 hi (by decide), (by show 3 ≤ sizeLine; decide), fun p0 h0 => ?_⟩
    have o1 := o0.trans (same_upd (o := .lst [.bl (decide (0 = i)), .bl (decide (1 = i)), .bl (decide (2 = i))]) h0)
    have x1 := xo.keep o1
    have l0 : upd H p0 (.lst [.bl (decide (0 = i)), .bl (decide (1 = i)), .bl (decide (2 = i))]) p0 = some (.lst [.bl (decide (0 = i)), .bl (decide (1 = i)), .bl (decide (2 = i))]) := upd_same
    show tSeq _ _ _ [some (.ref e), some (.ref p0), none] (upd H p0 (.lst [.bl (decide (0 = i)), .bl (decide (1 = i)), .bl (decide (2 = i))]))
    generalize upd H p0 (.lst [.bl (decide (0 = i)), .bl (decide (1 = i)), .bl (decide (2 = i))]) = H1 at o1 x1 l0 ⊢
    refine ⟨_, rfl, _, rfl, e, _, _, _, _, _, _, rfl, x1, T.x i hi, .own _, T.ko i 3 hi (by decide), _, rfl, e, _, _, _, _, _, _, rfl, x1, T.x i hi, .own _, T.ko i 4 hi (by decide), _, rfl, e, _, _, _, _, _, _, rfl, x1, T.x i hi, .own _, T.ko i 5 hi (by decide), (by show 3 ≤ sizeLine; decide), fun q1 hq1 => ?_⟩
    have lb1 : upd H1 q1 (.lst [.bl (decide (3 = i)), .bl (decide (4 = i)), .bl (decide (5 = i))]) p0 = some (.lst [.bl (decide (0 = i)), .bl (decide (1 = i)), .bl (decide (2 = i))]) := same_upd hq1 _ _ l0
    refine ⟨p0, q1, _, _, rfl, rfl, lb1, upd_same, (by show 3 + 3 ≤ sizeLine; decide), fun p1 h1 => ?_⟩
    have o2 : Same H (upd (upd H1 q1 (.lst [.bl (decide (3 = i)), .bl (decide (4 = i)), .bl (decide (5 = i))])) p1 (.lst [.bl (decide (0 = i)), .bl (decide (1 = i)), .bl (decide (2 = i)), .bl (decide (3 = i)), .bl (decide (4 = i)), .bl (decide (5 = i))])) := (o1.trans (same_upd hq1)).trans (same_upd h1)
    have x2 := xo.keep o2
    have l1 : upd (upd H1 q1 (.lst [.bl (decide (3 = i)), .bl (decide (4 = i)), .bl (decide (5 = i))])) p1 (.lst [.bl (decide (0 = i)), .bl (decide (1 = i)), .bl (decide (2 = i)), .bl (decide (3 = i)), .bl (decide (4 = i)), .bl (decide (5 = i))]) p1 = some (.lst [.bl (decide (0 = i)), .bl (decide (1 = i)), .bl (decide (2 = i)), .bl (decide (3 = i)), .bl (decide (4 = i)), .bl (decide (5 = i))]) := upd_same
    show tSeq _ _ _ [some (.ref e), some (.ref p1), none] (upd (upd H1 q1 (.lst [.bl (decide (3 = i)), .bl (decide (4 = i)), .bl (decide (5 = i))])) p1 (.lst [.bl (decide (0 = i)), .bl (decide (1 = i)), .bl (decide (2 = i)), .bl (decide (3 = i)), .bl (decide (4 = i)), .bl (decide (5 = i))]))
    generalize upd (upd H1 q1 (.lst [.bl (decide (3 = i)), .bl (decide (4 = i)), .bl (decide (5 = i))])) p1 (.lst [.bl (decide (0 = i)), .bl (decide (1 = i)), .bl (decide (2 = i)), .bl (decide (3 = i)), .bl (decide (4 = i)), .bl (decide (5 = i))]) = H2 at o2 x2 l1 ⊢
    refine ⟨_, rfl, _, rfl, e, _, _, _, _, _, _, rfl, x2, T.x i hi, .own _, T.ko i 6 hi (by decide), _, rfl, e, _, _, _, _, _, _, rfl, x2, T.x i hi, .own _, T.ko i 7 hi (by decide), _, rfl, e, _, _, _, _, _, _, rfl, x2, T.x i hi, .own _, T.ko i 8 hi (by decide), (by show 3 ≤ sizeLine; decide), fun q2 hq2 => ?_⟩
    have lb2 : upd H2 q2 (.lst [.bl (decide (6 = i)), .bl (decide (7 = i)), .bl (decide (8 = i))]) p1 = some (.lst [.bl (decide (0 = i)), .bl (decide (1 = i)), .bl (decide (2 = i)), .bl (decide (3 = i)), .bl (decide (4 = i)), .bl (decide (5 = i))]) := same_upd hq2 _ _ l1
    refine ⟨p1, q2, _, _, rfl, rfl, lb2, upd_same, (by show 6 + 3 ≤ sizeLine; decide), fun p2 h2 => ?_⟩
    have o3 : Same H (upd (upd H2 q2 (.lst [.bl (decide (6 = i)), .bl (decide (7 = i)), .bl (decide (8 = i))])) p2 (.lst [.bl (decide (0 = i)), .bl (decide (1 = i)), .bl (decide (2 = i)), .bl (decide (3 = i)), .bl (decide (4 = i)), .bl (decide (5 = i)), .bl (decide (6 = i)), .bl (decide (7 = i)), .bl (decide (8 = i))])) := (o2.trans (same_upd hq2)).trans (same_upd h2)
    have x3 := xo.keep o3
    have l2 : upd (upd H2 q2 (.lst [.bl (decide (6 = i)), .bl (decide (7 = i)), .bl (decide (8 = i))])) p2 (.lst [.bl (decide (0 = i)), .bl (decide (1 = i)), .bl (decide (2 = i)), .bl (decide (3 = i)), .bl (decide (4 = i)), .bl (decide (5 = i)), .bl (decide (6 = i)), .bl (decide (7 = i)), .bl (decide (8 = i))]) p2 = some (.lst [.bl (decide (0 = i)), .bl (decide (1 = i)), .bl (decide (2 = i)), .bl (decide (3 = i)), .bl (decide (4 = i)), .bl (decide (5 = i)), .bl (decide (6 = i)), .bl (decide (7 = i)), .bl (decide (8 = i))]) := upd_same
    show tSeq _ _ _ [some (.ref e), some (.ref p2), none] (upd (upd H2 q2 (.lst [.bl (decide (6 = i)), .bl (decide (7 = i)), .bl (decide (8 = i))])) p2 (.lst [.bl (decide (0 = i)), .bl (decide (1 = i)), .bl (decide (2 = i)), .bl (decide (3 = i)), .bl (decide (4 = i)), .bl (decide (5 = i)), .bl (decide (6 = i)), .bl (decide (7 = i)), .bl (decide (8 = i))]))
    generalize upd (upd H2 q2 (.lst [.bl (decide (6 = i)), .bl (decide (7 = i)), .bl (decide (8 = i))])) p2 (.lst [.bl (decide (0 = i)), .bl (decide (1 = i)), .bl (decide (2 = i)), .bl (decide (3 = i)), .bl (decide (4 = i)), .bl (decide (5 = i)), .bl (decide (6 = i)), .bl (decide (7 = i)), .bl (decide (8 = i))]) = H3 at o3 x3 l2 ⊢
    refine ⟨_, rfl, _, rfl, e, _, _, _, _, _, _, rfl, x3, T.x i hi, .own _, T.ko i 9 hi (by decide), _, rfl, e, _, _, _, _, _, _, rfl, x3, T.x i hi, .own _, T.ko i 10 hi (by decide), _, rfl, e, _, _, _, _, _, _, rfl, x3, T.x i hi, .own _, T.ko i 11 hi (by decide), (by show 3 ≤ sizeLine; decide), fun q3 hq3 => ?_⟩
    have lb3 : upd H3 q3 (.lst [.bl (decide (9 = i)), .bl (decide (10 = i)), .bl (decide (11 = i))]) p2 = some (.lst [.bl (decide (0 = i)), .bl (decide (1 = i)), .bl (decide (2 = i)), .bl (decide (3 = i)), .bl (decide (4 = i)), .bl (decide (5 = i)), .bl (decide (6 = i)), .bl (decide (7 = i)), .bl (decide (8 = i))]) := same_upd hq3 _ _ l2
    refine ⟨p2, q3, _, _, rfl, rfl, lb3, upd_same, (by show 9 + 3 ≤ sizeLine; decide), fun p3 h3 => ?_⟩
    have o4 : Same H (upd (upd H3 q3 (.lst [.bl (decide (9 = i)), .bl (decide (10 = i)), .bl (decide (11 = i))])) p3 (.lst [.bl (decide (0 = i)), .bl (decide (1 = i)), .bl (decide (2 = i)), .bl (decide (3 = i)), .bl (decide (4 = i)), .bl (decide (5 = i)), .bl (decide (6 = i)), .bl (decide (7 = i)), .bl (decide (8 = i)), .bl (decide (9 = i)), .bl (decide (10 = i)), .bl (decide (11 = i))])) := (o3.trans (same_upd hq3)).trans (same_upd h3)
    have x4 := xo.keep o4
    have l3 : upd (upd H3 q3 (.lst [.bl (decide (9 = i)), .bl (decide (10 = i)), .bl (decide (11 = i))])) p3 (.lst [.bl (decide (0 = i)), .bl (decide (1 = i)), .bl (decide (2 = i)), .bl (decide (3 = i)), .bl (decide (4 = i)), .bl (decide (5 = i)), .bl (decide (6 = i)), .bl (decide (7 = i)), .bl (decide (8 = i)), .bl (decide (9 = i)), .bl (decide (10 = i)), .bl (decide (11 = i))]) p3 = some (.lst [.bl (decide (0 = i)), .bl (decide (1 = i)), .bl (decide (2 = i)), .bl (decide (3 = i)), .bl (decide (4 = i)), .bl (decide (5 = i)), .bl (decide (6 = i)), .bl (decide (7 = i)), .bl (decide (8 = i)), .bl (decide (9 = i)), .bl (decide (10 = i)), .bl (decide (11 = i))]) := upd_same
    show tSeq _ _ _ [some (.ref e), some (.ref p3), none] (upd (upd H3 q3 (.lst [.bl (decide (9 = i)), .bl (decide (10 = i)), .bl (decide (11 = i))])) p3 (.lst [.bl (decide (0 = i)), .bl (decide (1 = i)), .bl (decide (2 = i)), .bl (decide (3 = i)), .bl (decide (4 = i)), .bl (decide (5 = i)), .bl (decide (6 = i)), .bl (decide (7 = i)), .bl (decide (8 = i)), .bl (decide (9 = i)), .bl (decide (10 = i)), .bl (decide (11 = i))]))
    generalize upd (upd H3 q3 (.lst [.bl (decide (9 = i)), .bl (decide (10 = i)), .bl (decide (11 = i))])) p3 (.lst [.bl (decide (0 = i)), .bl (decide (1 = i)), .bl (decide (2 = i)), .bl (decide (3 = i)), .bl (decide (4 = i)), .bl (decide (5 = i)), .bl (decide (6 = i)), .bl (decide (7 = i)), .bl (decide (8 = i)), .bl (decide (9 = i)), .bl (decide (10 = i)), .bl (decide (11 = i))]) = H4 at o4 x4 l3 ⊢
    refine ⟨_, rfl, _, rfl, e, _, _, _, _, _, _, rfl, x4, T.x i hi, .own _, T.ko i 12 hi (by decide), _, rfl, e, _, _, _, _, _, _, rfl, x4, T.x i hi, .own _, T.ko i 13 hi (by decide), _, rfl, e, _, _, _, _, _, _, rfl, x4, T.x i hi, .own _, T.ko i 14 hi (by decide), (by show 3 ≤ sizeLine; decide), fun q4 hq4 => ?_⟩
    have lb4 : upd H4 q4 (.lst [.bl (decide (12 = i)), .bl (decide (13 = i)), .bl (decide (14 = i))]) p3 = some (.lst [.bl (decide (0 = i)), .bl (decide (1 = i)), .bl (decide (2 = i)), .bl (decide (3 = i)), .bl (decide (4 = i)), .bl (decide (5 = i)), .bl (decide (6 = i)), .bl (decide (7 = i)), .bl (decide (8 = i)), .bl (decide (9 = i)), .bl (decide (10 = i)), .bl (decide (11 = i))]) := same_upd hq4 _ _ l3
    refine ⟨p3, q4, _, _, rfl, rfl, lb4, upd_same, (by show 12 + 3 ≤ sizeLine; decide), fun p4 h4 => ?_⟩
    have o5 : Same H (upd (upd H4 q4 (.lst [.bl (decide (12 = i)), .bl (decide (13 = i)), .bl (decide (14 = i))])) p4 (.lst [.bl (decide (0 = i)), .bl (decide (1 = i)), .bl (decide (2 = i)), .bl (decide (3 = i)), .bl (decide (4 = i)), .bl (decide (5 = i)), .bl (decide (6 = i)), .bl (decide (7 = i)), .bl (decide (8 = i)), .bl (decide (9 = i)), .bl (decide (10 = i)), .bl (decide (11 = i)), .bl (decide (12 = i)), .bl (decide (13 = i)), .bl (decide (14 = i))])) := (o4.trans (same_upd hq4)).trans (same_upd h4)
    have x5 := xo.keep o5
    have l4 : upd (upd H4 q4 (.lst [.bl (decide (12 = i)), .bl (decide (13 = i)), .bl (decide (14 = i))])) p4 (.lst [.bl (decide (0 = i)), .bl (decide (1 = i)), .bl (decide (2 = i)), .bl (decide (3 = i)), .bl (decide (4 = i)), .bl (decide (5 = i)), .bl (decide (6 = i)), .bl (decide (7 = i)), .bl (decide (8 = i)), .bl (decide (9 = i)), .bl (decide (10 = i)), .bl (decide (11 = i)), .bl (decide (12 = i)), .bl (decide (13 = i)), .bl (decide (14 = i))]) p4 = some (.lst [.bl (decide (0 = i)), .bl (decide (1 = i)), .bl (decide (2 = i)), .bl (decide (3 = i)), .bl (decide (4 = i)), .bl (decide (5 = i)), .bl (decide (6 = i)), .bl (decide (7 = i)), .bl (decide (8 = i)), .bl (decide (9 = i)), .bl (decide (10 = i)), .bl (decide (11 = i)), .bl (decide (12 = i)), .bl (decide (13 = i)), .bl (decide (14 = i))]) := upd_same
    show tSeq _ _ _ [some (.ref e), some (.ref p4), none] (upd (upd H4 q4 (.lst [.bl (decide (12 = i)), .bl (decide (13 = i)), .bl (decide (14 = i))])) p4 (.lst [.bl (decide (0 = i)), .bl (decide (1 = i)), .bl (decide (2 = i)), .bl (decide (3 = i)), .bl (decide (4 = i)), .bl (decide (5 = i)), .bl (decide (6 = i)), .bl (decide (7 = i)), .bl (decide (8 = i)), .bl (decide (9 = i)), .bl (decide (10 = i)), .bl (decide (11 = i)), .bl (decide (12 = i)), .bl (decide (13 = i)), .bl (decide (14 = i))]))
    generalize upd (upd H4 q4 (.lst [.bl (decide (12 = i)), .bl (decide (13 = i)), .bl (decide (14 = i))])) p4 (.lst [.bl (decide (0 = i)), .bl (decide (1 = i)), .bl (decide (2 = i)), .bl (decide (3 = i)), .bl (decide (4 = i)), .bl (decide (5 = i)), .bl (decide (6 = i)), .bl (decide (7 = i)), .bl (decide (8 = i)), .bl (decide (9 = i)), .bl (decide (10 = i)), .bl (decide (11 = i)), .bl (decide (12 = i)), .bl (decide (13 = i)), .bl (decide (14 = i))]) = H5 at o5 x5 l4 ⊢
    refine ⟨_, rfl, _, rfl, e, _, _, _, _, _, _, rfl, x5, T.x i hi, .own _, T.ko i 15 hi (by decide), _, rfl, e, _, _, _, _, _, _, rfl, x5, T.x i hi, .own _, T.ko i 16 hi (by decide), (by show 2 ≤ sizeLine; decide), fun q5 hq5 => ?_⟩
    have lb5 : upd H5 q5 (.lst [.bl (decide (15 = i)), .bl (decide (16 = i))]) p4 = some (.lst [.bl (decide (0 = i)), .bl (decide (1 = i)), .bl (decide (2 = i)), .bl (decide (3 = i)), .bl (decide (4 = i)), .bl (decide (5 = i)), .bl (decide (6 = i)), .bl (decide (7 = i)), .bl (decide (8 = i)), .bl (decide (9 = i)), .bl (decide (10 = i)), .bl (decide (11 = i)), .bl (decide (12 = i)), .bl (decide (13 = i)), .bl (decide (14 = i))]) := same_upd hq5 _ _ l4
    refine ⟨p4, q5, _, _, rfl, rfl, lb5, upd_same, (by show 15 + 2 ≤ sizeLine; decide), fun p5 h5 => ?_⟩
    have o6 : Same H (upd (upd H5 q5 (.lst [.bl (decide (15 = i)), .bl (decide (16 = i))])) p5 (.lst [.bl (decide (0 = i)), .bl (decide (1 = i)), .bl (decide (2 = i)), .bl (decide (3 = i)), .bl (decide (4 = i)), .bl (decide (5 = i)), .bl (decide (6 = i)), .bl (decide (7 = i)), .bl (decide (8 = i)), .bl (decide (9 = i)), .bl (decide (10 = i)), .bl (decide (11 = i)), .bl (decide (12 = i)), .bl (decide (13 = i)), .bl (decide (14 = i)), .bl (decide (15 = i)), .bl (decide (16 = i))])) := (o5.trans (same_upd hq5)).trans (same_upd h5)
    have x6 := xo.keep o6
    have l5 : upd (upd H5 q5 (.lst [.bl (decide (15 = i)), .bl (decide (16 = i))])) p5 (.lst [.bl (decide (0 = i)), .bl (decide (1 = i)), .bl (decide (2 = i)), .bl (decide (3 = i)), .bl (decide (4 = i)), .bl (decide (5 = i)), .bl (decide (6 = i)), .bl (decide (7 = i)), .bl (decide (8 = i)), .bl (decide (9 = i)), .bl (decide (10 = i)), .bl (decide (11 = i)), .bl (decide (12 = i)), .bl (decide (13 = i)), .bl (decide (14 = i)), .bl (decide (15 = i)), .bl (decide (16 = i))]) p5 = some (.lst [.bl (decide (0 = i)), .bl (decide (1 = i)), .bl (decide (2 = i)), .bl (decide (3 = i)), .bl (decide (4 = i)), .bl (decide (5 = i)), .bl (decide (6 = i)), .bl (decide (7 = i)), .bl (decide (8 = i)), .bl (decide (9 = i)), .bl (decide (10 = i)), .bl (decide (11 = i)), .bl (decide (12 = i)), .bl (decide (13 = i)), .bl (decide (14 = i)), .bl (decide (15 = i)), .bl (decide (16 = i))]) := upd_same
    show tSeq _ _ _ [some (.ref e), some (.ref p5), none] (upd (upd H5 q5 (.lst [.bl (decide (15 = i)), .bl (decide (16 = i))])) p5 (.lst [.bl (decide (0 = i)), .bl (decide (1 = i)), .bl (decide (2 = i)), .bl (decide (3 = i)), .bl (decide (4 = i)), .bl (decide (5 = i)), .bl (decide (6 = i)), .bl (decide (7 = i)), .bl (decide (8 = i)), .bl (decide (9 = i)), .bl (decide (10 = i)), .bl (decide (11 = i)), .bl (decide (12 = i)), .bl (decide (13 = i)), .bl (decide (14 = i)), .bl (decide (15 = i)), .bl (decide (16 = i))]))
    generalize upd (upd H5 q5 (.lst [.bl (decide (15 = i)), .bl (decide (16 = i))])) p5 (.lst [.bl (decide (0 = i)), .bl (decide (1 = i)), .bl (decide (2 = i)), .bl (decide (3 = i)), .bl (decide (4 = i)), .bl (decide (5 = i)), .bl (decide (6 = i)), .bl (decide (7 = i)), .bl (decide (8 = i)), .bl (decide (9 = i)), .bl (decide (10 = i)), .bl (decide (11 = i)), .bl (decide (12 = i)), .bl (decide (13 = i)), .bl (decide (14 = i)), .bl (decide (15 = i)), .bl (decide (16 = i))]) = H6 at o6 x6 l5 ⊢
    refine ⟨_, rfl, e, _, _, _, _, _, _, rfl, x6, T.x i hi, .own _, T.kT i hi, _, rfl, e, _, _, _, _, _, _, rfl, x6, T.x i hi, .ty _, T.kV i hi, (by show 2 ≤ sizeLine; decide), fun b hb => ?_⟩
    have ob : Same H (upd H6 b (.lst [.bl (decide (i < 13)), .bl (decide (i < 13))])) := o6.trans (same_upd hb)
    have xb := xo.keep ob
    have lb : upd H6 b (.lst [.bl (decide (i < 13)), .bl (decide (i < 13))]) b = some (.lst [.bl (decide (i < 13)), .bl (decide (i < 13))]) := upd_same
    have lf : upd H6 b (.lst [.bl (decide (i < 13)), .bl (decide (i < 13))]) p5 = some (.lst [.bl (decide (0 = i)), .bl (decide (1 = i)), .bl (decide (2 = i)), .bl (decide (3 = i)), .bl (decide (4 = i)), .bl (decide (5 = i)), .bl (decide (6 = i)), .bl (decide (7 = i)), .bl (decide (8 = i)), .bl (decide (9 = i)), .bl (decide (10 = i)), .bl (decide (11 = i)), .bl (decide (12 = i)), .bl (decide (13 = i)), .bl (decide (14 = i)), .bl (decide (15 = i)), .bl (decide (16 = i))]) := same_upd hb _ _ l5
    generalize upd H6 b (.lst [.bl (decide (i < 13)), .bl (decide (i < 13))]) = Hb at ob xb lb lf ⊢
    refine ⟨_, rfl, _, rfl, _, rfl, e, _, _, _, _, _, _, rfl, xb, T.x i hi, .own _, T.kU i hi, _, rfl, e, _, _, _, _, _, _, rfl, xb, T.x i hi, .ty _, T.kK i hi, (by show 2 ≤ sizeLine; decide), fun u hu => ⟨(by show 3 ≤ sizeLine; decide), fun t ht => ?_⟩⟩
    have s2 := (same_upd (o := .lst [.bl (!decide (i < 13)), .bl (!decide (i < 13))]) hu).trans (same_upd (o := .tup [.ref p5, .ref b, .ref u]) ht)
    refine k t _ (ob.trans s2) ?_
    exact .tup (SqT.of upd_same) (.cons (.lst (SqL.of (s2 _ _ lf)) (dpFlags K _ [decide (0 = i), decide (1 = i), decide (2 = i), decide (3 = i), decide (4 = i), decide (5 = i), decide (6 = i), decide (7 = i), decide (8 = i), decide (9 = i), decide (10 = i), decide (11 = i), decide (12 = i), decide (13 = i), decide (14 = i), decide (15 = i), decide (16 = i)])) (.cons (.lst (SqL.of (s2 _ _ lb)) (dpFlags K _ [decide (i < 13), decide (i < 13)]))
      (.cons (.lst (SqL.of (same_upd ht _ _ upd_same)) (dpFlags K _ [!decide (i < 13), !decide (i < 13)])) .nil)))
theorem scDue : FnScope ["_law_which", "_law_is_turn", "_law_k"] ["_law_which"] (defScope sDue) := ⟨rfl, rfl, rfl, by decide +kernel, rfl, by decide +kernel, by decide +kernel⟩
theorem ok_due {f : Addr} {fd : FuncData} (F : Fun K "_law_due" "_law_due" sDue f fd) (T : TxtX K mg cs fi tT uT) : FnOk P w K mg base CX0 1 f fd ["_law_which"] (spDue K) := by
  refine F.ok scDue (fun vs H Q E h => ?_) (fun cdv A outer s H vs Q E hr h => ?_)
  · obtain ⟨i, rfl, _⟩ := h
    rfl
  · obtain ⟨i, rfl, hi, k⟩ := h
    refine ⟨_, pss_cons (ps_set (i := 1) scDue.nd rfl (Or.inl rfl) (pe_cmpR op_lt (pv 0) pe_int (nomark _)))
      (pss_one (ps_ret (pe_tup (pa_cons (pe_lc (own := [("_law_k", 2)]) (g := gName 2) (tt := tYes) rfl scDue.nd (pi_range1 rfl T.range (pa_cons pe_int pa_nil))
          (blkOk_by (N := ["_law_which", "_law_is_turn", "_law_k"]) (sc := defScope sDue) (by decide +kernel)) (fun _ _ _ _ _ => pg_name (i := 2) scDue.nd rfl (Or.inl rfl)) (fun _ _ _ _ _ => pts_nil)
          (fun _ _ _ _ _ => pe_cmpR op_eq (pv 2) (pv 0) (nomark _)))
        (pa_cons (pe_op op_rep (pe_lst (pa_cons (pv 1) pa_nil)) pe_int) (pa_cons (pe_op op_rep (pe_lst (pa_cons (pe_not (pv 1)) pa_nil)) pe_int) pa_nil)))))), ?_⟩
    refine ⟨_, rfl, _, _, rfl, rfl, 17, rfl, by decide, by decide, fun D hD => ?_⟩
    refine lc_range (lo := 0) (n := 17) (fun j H' => Same H H' ∧ H' D = some (.lst ((List.range j).map fun a => V.bl (decide (a = i))))) ⟨same_upd hD, upd_same⟩ ?_ ?_
    · rintro j H3 hj ⟨s3, e3⟩
      refine ⟨rfl, ?_⟩
      dsimp only [tYes]
      rw [if_pos rfl]
      refine ⟨_, rfl, _, rfl, rfl, _, e3, ?_, fun b o e => ?_, ?_⟩
      · rw [List.length_map, List.length_range]
        show j < 16777216
        omega
      · rw [upd_ne (ne_of_none e hD)]
        exact s3 b o e
      · rw [upd_same, List.range_succ, List.map_append]
        have ej : decide (V.int (0 + (j : Int)) = V.int (i : Int)) = decide (j = i) := by
          by_cases z : j = i
          · rw [decide_eq_true z, z, Int.zero_add]
            exact decide_eq_true rfl
          · rw [decide_eq_false z]
            exact decide_eq_false fun q => z (by
              have := V.int.inj q
              omega)
        rw [ej]
        rfl
    · rintro H3 ⟨s3, e3⟩
      have et : decide ((i : Int) < 13) = decide (i < 13) := by
        by_cases z : i < 13
        · rw [decide_eq_true z]
          exact decide_eq_true (by omega)
        · rw [decide_eq_false z]
          exact decide_eq_false (by omega)
      refine ⟨_, rfl, (by show 1 ≤ sizeLine; decide), fun a ha => ⟨a, 2, _, rfl, rfl, upd_same, by decide, by decide, (by show 1 * 2 ≤ sizeLine; decide), fun b hb => ?_⟩⟩
      refine ⟨_, rfl, _, rfl, (by show 1 ≤ sizeLine; decide), fun c hc => ⟨c, 2, _, rfl, rfl, upd_same, by decide, by decide, (by show 1 * 2 ≤ sizeLine; decide), fun d hd => ⟨(by show 3 ≤ sizeLine; decide), fun t ht => ?_⟩⟩⟩
      dsimp only at hb hc hd ht ⊢
      rw [et] at hb hc hd ht ⊢
      have dl : ∀ (n : Nat) (H' : Hp), DpAll K H' ((List.range n).map fun a => V.bl (decide (a = i))) ((List.range n).map fun j => flag (decide (j = i))) := fun n H' => by
        have z := dpFlags K H' ((List.range n).map fun a => decide (a = i))
        rw [List.map_map, List.map_map] at z
        exact z
      have s4 := same_upd (o := .lst [V.bl (decide (i < 13))]) ha
      have s5 := same_upd (o := .lst [V.bl (decide (i < 13)), V.bl (decide (i < 13))]) hb
      have s6 := same_upd (o := .lst [V.bl (!decide (i < 13))]) hc
      have s7 := same_upd (o := .lst [V.bl (!decide (i < 13)), V.bl (!decide (i < 13))]) hd
      have s8 := same_upd (o := .tup [.ref D, .ref b, .ref d]) ht
      have s47 := (((s3.trans s4).trans s5).trans s6).trans s7
      refine k t _ (s47.trans s8) ?_
      refine .tup (SqT.of upd_same) (.cons (.lst (SqL.of (s8 _ _ (s7 _ _ (s6 _ _ (s5 _ _ (s4 _ _ e3)))))) (dl 17 _)) (.cons (.lst (SqL.of (s8 _ _ (s7 _ _ (s6 _ _ upd_same)))) (dpFlags K _ [decide (i < 13), decide (i < 13)]))
        (.cons (.lst (SqL.of (s8 _ _ upd_same)) (dpFlags K _ [!decide (i < 13), !decide (i < 13)])) .nil)))
end
end Vk
namespace Vk
open PySem PySem.Spec PyProof.Rows L2
/-- one except clause: its class, the slot of its name if it has one, its suite -/
structure Clause where
  c : Value
  slot : Option Nat
  ts : Addr → Value → Option Addr → TS
/-- the ends of a suite whose name is in slot i -/
def Ends.drop (D : Ends) (i : Nat) : Ends := { nx := fun σ H => D.nx (σ.set i none) H, rt := D.rt, bk := fun σ H => D.bk (σ.set i none) H, ct := fun σ H => D.ct (σ.set i none) H }
def Clause.runs (k : Clause) (D : Ends) (a : Addr) (cls : Value) (d : Option Addr) (σ : L2.St) (H : Hp) : Prop := match k.slot with
  | none => k.ts a cls d D σ H
  | some i => k.ts a cls d (Ends.drop D i) (σ.set i (some (.ref a))) H
/-- what the clauses wish of an exception of the body -/
def wMix (K : PySem.W.Frag) (Wout : WX) (D : Ends) : List Clause → WX
  | [] => Wout
  | k :: r => fun cls d σ H => ∃ b, PySem.W.exmOne K cls k.c = some b ∧ (b = true → ∀ a, H a = none → k.runs D a cls d σ H) ∧ (b = false → wMix K Wout D r cls d σ H)
inductive Mix (X : Cx) : List ExceptHandler → List Clause → Prop
  | nil : Mix X [] []
  | plain {x : Str} {c : Value} {ts : Addr → Value → Option Addr → TS} {b₀ : Stmt} {suite : List Stmt} {np pos' : Pos} {hds : List ExceptHandler} {l : List Clause} (hc : Names X x c)
      (hsu : ∀ (a : Addr) (oe : Obj) (cls : Value) (d : Option Addr) (pn : List (Addr × Obj)), Zc cls d oe → (∃ vs, oe.data = .fields vs) → PSs (X.suite a ((a, oe) :: pn)) (b₀ :: suite) (ts a cls d)) (r : Mix X hds l) :
      Mix X (.ExceptHandler (some (.Name x np)) none (b₀ :: suite) pos' :: hds) (⟨c, none, ts⟩ :: l)
  | named {x n : Str} {i : Nat} {c : Value} {ts : Addr → Value → Option Addr → TS} {b₀ : Stmt} {suite : List Stmt} {np pos' : Pos} {hds : List ExceptHandler} {l : List Clause} (hi : X.N[i]? = some n) (hl : X.env.kindOf n = some .local) (hc : Names X x c)
      (hsu : ∀ (a : Addr) (oe : Obj) (cls : Value) (d : Option Addr) (pn : List (Addr × Obj)), Zc cls d oe → (∃ vs, oe.data = .fields vs) → PSs (X.suite a ((a, oe) :: pn)) (b₀ :: suite) (ts a cls d)) (r : Mix X hds l) :
      Mix X (.ExceptHandler (some (.Name x np)) (some n) (b₀ :: suite) pos' :: hds) (⟨c, some i, ts⟩ :: l)
section
variable {X : Cx} {body : List Stmt} {h₀ : ExceptHandler} {hds : List ExceptHandler} {l : List Clause} {pos : Pos} {tb : WX → TS} {Wout : WX}
theorem ps_try_mix (hs : X.stack = X.env :: X.outer) (hf : X.env.frame = some X.env.locals) (hN : X.N.Nodup) (tk : Takes X Wout)
    (hb : ∀ (W : WX) (pn : List (Addr × Obj)) (xe : Value → Shared → Prop), Takes (X.tr pn xe) W → PassesOwn (model X.prog X.w) X.A X.env xe → PSs (X.tr pn xe) body (tb W))
    (hh : Mix X (h₀ :: hds) l) : PS X (.Try body (h₀ :: hds) [] [] pos) (fun D σ H => tb (wMix X.K Wout D l) D σ H) := by
  constructor
  intro pins s σ H D I start
  have ok := I.ok
  have frm : X.A.frames = some (X.env :: X.outer) := by rw [ok.frames, hs]
  refine wpAny_Try_except ?_
  have body_run := (hb (wMix X.K Wout D l) (X.pn ++ pins)
    (fun e s₁ => wpAny (model X.prog X.w) X.A (noteFrame e X.env) (fun _ s₂ => wpAny (model X.prog X.w) X.A (setFlight e none)
      (fun _ s₃ => wpAny (model X.prog X.w) X.A (handleBy e X.env (h₀ :: hds)) (SP X pins D) X.xe s₃) X.xe s₂) X.xe s₁)
    (fun u s' caught => by
      obtain ⟨a, B, sI, pins', σ', H', cls, d, rfl, J', nb, up, sky, na, os, ag, want⟩ := caught
      have J : Inv X pins σ' H' sI := J'.ofTry ok
      have sky2 : Sky B (X.env :: X.outer) a (Zc cls d) X.env.locals s'.heap := by
        rw [← hs]
        exact sky
      show wpAny (model X.prog X.w) X.A (noteFrame (.ref a) X.env) _ _ _
      refine Sky.land Zc.steady frm hf sky2 fun h3 fly up3 => ?_
      have J3 : Inv X pins σ' H' { s' with heap := h3 } := J.landed nb fly.1 (up.trans up3) os ag
      obtain ⟨o3, v3, get3, cl3, dt3⟩ := fly.there
      have apart : a ∉ frs (X.env :: X.outer) := fun hm => by
        obtain ⟨_, o', e', hnf⟩ := fly.2.2.1.mem hm
        rw [get3] at e'
        cases e'
        exact hnf _ dt3
      have offL : a ≠ X.env.locals := fun z => apart (List.mem_filterMap.mpr ⟨X.env, List.mem_cons_self, by rw [hf, z]⟩)
      have offF : a ∉ X.fs := fun hm => by
        obtain ⟨e, he, q⟩ := List.mem_filterMap.mp hm
        exact apart (List.mem_filterMap.mpr ⟨e, List.mem_cons_of_mem _ he, q⟩)
      have S3 := J3.suite get3 dt3 na offL offF
      have tyE : PySem.W.Looks (model X.prog X.w) h3 (typeOf (.ref a)) cls := fun A Q E s k q => wpAny_typeOf_ref (k _ _ get3) (by rw [cl3.1]; exact q)
      have look : ∀ {x : Str} {c : Value} {np : Pos} {Q : Value → Shared → Prop} {E : Value → Shared → Prop}, Names X x c → Q c { s' with heap := h3 } →
          wpAny (model X.prog X.w) (X.A.mark (some (.ref a))) (eval (.Name x np) X.env) Q E { s' with heap := h3 } := fun {x c np Q E} nmd q => by
        obtain ⟨hg, hdbg, hm | ⟨hm, hv, hnn⟩⟩ := nmd
        · exact ld_glob (X := X.suite a ((a, o3) :: (X.pn ++ pins))) S3 hg hm q hdbg
        · exact ld_blt (X := X.suite a ((a, o3) :: (X.pn ++ pins))) S3 hg hm hv q hnn hdbg
      have all : ∀ {hds' : List ExceptHandler} {l' : List Clause}, Mix X hds' l' → wMix X.K Wout D l' cls d σ' H' → wpAny (model X.prog X.w) X.A (handleBy (.ref a) X.env hds') (SP X pins D) X.xe { s' with heap := h3 } := by
        intro hds' l' mix
        induction mix with
        | nil =>
          intro want'
          refine wpAny_handleBy_nil ?_
          obtain ⟨k1, k2, k3, oe, vs, T, oT, ts', he, hz, hd, h1, hr⟩ := id fly
          unfold PySem.passOn
          refine wpAny_bind (wpAny_field he hd h1 ?_)
          rw [if_neg (show ¬ ((Value.ref T == Value.none) = true) from by simp)]
          have off : wpAny (model X.prog X.w) X.A (setFlight (.ref a) X.env.frame) (fun _ s4 => wpAny (model X.prog X.w) X.A (throw (.ref a) : Sem Flow) (SP X pins D) X.xe s4) X.xe { s' with heap := h3 } := by
            rw [hf]
            refine HandSPX.setFlight_upZ fly fun h4 hh4 up4 => wpAny_throw (tk _ _ ?_)
            exact ⟨a, B, sI, pins, σ', H', cls, d, rfl, J, nb, (up.trans up3).trans up4, .inr (.inr (by rw [hs]; exact hh4)), na, os, ag, want'⟩
          first
            | exact wpAny_bind (wpAny_pure (wpAny_bind off))
            | exact wpAny_bind off
        | plain hc hsu r ih =>
          intro want'
          obtain ⟨b, hb1, hyes, hno⟩ := want'
          refine wpAny_handleBy_cons (codeAny_handlers_test ?_) (by intro q; cases q)
          refine look hc ((PySem.W.exm_one (M := model X.prog X.w) J3.kIn tyE hb1).here ?_)
          cases b with
          | false =>
            show wpAny _ X.A (handleBy (.ref a) X.env _) _ _ _
            exact ih (hno rfl)
          | true =>
            refine codeAny_handlers_suite ?_
            refine HandSPX.lands_againZ fly fun h4 fl4 up4 => ?_
            have J4 : Inv X pins σ' H' { s' with heap := h4 } := J.landed nb fl4.1 ((up.trans up3).trans up4) os ag
            obtain ⟨o4, v4, get4, cl4, dt4⟩ := fl4.there
            have S4 := J4.suite get4 dt4 na offL offF
            refine wpAny_mono ((hsu a o4 cls d (X.pn ++ pins) cl4 ⟨_, dt4⟩).run [] _ _ H' _ S4 (hyes rfl a na)) (fun f s6 hsp => ?_) (fun _ _ z => False.elim z)
            cases f with
            | next =>
              obtain ⟨σ6, H6, S6, q6⟩ := hsp
              exact ⟨_, _, S6.unsuite ok, q6⟩
            | brk =>
              obtain ⟨σ6, H6, S6, q6⟩ := hsp
              exact ⟨_, _, S6.unsuite ok, q6⟩
            | cont =>
              obtain ⟨σ6, H6, S6, q6⟩ := hsp
              exact ⟨_, _, S6.unsuite ok, q6⟩
            | ret u =>
              obtain ⟨v6, σ6, H6, S6, r6, q6⟩ := hsp
              exact ⟨_, _, _, S6.unsuite ok, r6, q6⟩
        | @named x n i c ts b₀ suite np pos' hds2 l2 hi hln hc hsu r ih =>
          intro want'
          obtain ⟨b, hb1, hyes, hno⟩ := want'
          refine wpAny_handleBy_cons (codeAny_handlers_test ?_) (by intro q; cases q)
          refine look hc ((PySem.W.exm_one (M := model X.prog X.w) J3.kIn tyE hb1).here ?_)
          cases b with
          | false =>
            show wpAny _ X.A (handleBy (.ref a) X.env _) _ _ _
            exact ih (hno rfl)
          | true =>
            refine codeAny_handlers_suite_as ?_
            refine HandSPX.lands_againZ fly fun h4 fl4 up4 => ?_
            have J4 : Inv X pins σ' H' { s' with heap := h4 } := J.landed nb fl4.1 ((up.trans up3).trans up4) os ag
            obtain ⟨o4, v4, get4, cl4, dt4⟩ := fl4.there
            have S4 := J4.suite get4 dt4 na offL offF
            refine store_ok (X := X.suite a ((a, o4) :: (X.pn ++ pins))) (v := .ref a) S4 hN hi (.inl hln) rfl (fun s5 S5 => ?_) (.inr hln)
            refine wpAny_mono ((hsu a o4 cls d (X.pn ++ pins) cl4 ⟨_, dt4⟩).run [] s5 _ H' _ S5 (hyes rfl a na)) (fun f s6 hsp => ?_) (fun _ _ z => False.elim z)
            have wipe : ∀ {σ6 : L2.St} {H6 : Hp} {Q : Shared → Prop}, Inv (X.suite a ((a, o4) :: (X.pn ++ pins))) [] σ6 H6 s6 → (∀ s7, Inv X pins (σ6.set i none) H6 s7 → Q s7) →
                wpAny (model X.prog X.w) X.A (do bindName X.env n .none; unbindBehindTheSuite X.env n pos') (fun _ s7 => Q s7) X.xe s6 := fun {σ6 H6 Q} S6 hq => gone_ok (S6.unsuite ok) hN hi hln hq
            cases f with
            | next =>
              obtain ⟨σ6, H6, S6, q6⟩ := hsp
              exact wipe S6 fun s7 J7 => ⟨_, _, J7, q6⟩
            | brk =>
              obtain ⟨σ6, H6, S6, q6⟩ := hsp
              exact wipe S6 fun s7 J7 => ⟨_, _, J7, q6⟩
            | cont =>
              obtain ⟨σ6, H6, S6, q6⟩ := hsp
              exact wipe S6 fun s7 J7 => ⟨_, _, J7, q6⟩
            | ret u =>
              obtain ⟨v6, σ6, H6, S6, r6, q6⟩ := hsp
              exact wipe S6 fun s7 J7 => ⟨_, _, _, J7, r6, q6⟩
      exact all hh want) PassesOwn.looking).run [] s σ H D (I.toTry _) start
  refine wpAny_mono body_run (fun f s1 hsp => ?_) (fun e s1 he => he)
  cases f with
  | next =>
    obtain ⟨σ', H', J', q⟩ := hsp
    exact wpAny_execs_nil ⟨σ', H', J'.ofTry ok, q⟩
  | brk =>
    obtain ⟨σ', H', J', q⟩ := hsp
    exact ⟨σ', H', J'.ofTry ok, q⟩
  | cont =>
    obtain ⟨σ', H', J', q⟩ := hsp
    exact ⟨σ', H', J'.ofTry ok, q⟩
  | ret u =>
    obtain ⟨v, σ', H', J', r, q⟩ := hsp
    exact ⟨v, σ', H', J'.ofTry ok, r, q⟩
end
end Vk
namespace Vk
open PySem L2
/-- raises the error: with a field, or without -/
def spRaise (cs : Nat → Addr) : Sp := fun vs H _ E => ∃ (i : Nat) (v : V), vs = [.int i, v] ∧
  (((i = 8 ∨ i = 11 ∨ i = 14 ∨ i = 15) ∧ ∀ (d : Addr) (H' : Hp), Same H H' → H d = none → H' d = some (.xd [(fld i, v)]) → E (.ref (cs i)) (some d) H') ∨
    ((i = 4 ∨ i = 7) ∧ ∀ H', Same H H' → E (.ref (cs i)) none H'))
section
variable {P : Program} {w : World} {K : PySem.W.Frag} {mg : Str → Option Value} {base : Heap} {cs fi : Nat → Addr} {fdi : Nat → FuncData} {tT uT : Addr}
theorem scRaise : FnScope ["_law_which", "_law_it"] ["_law_which", "_law_it"] (defScope sRaise) := ⟨rfl, rfl, rfl, by decide +kernel, rfl, by decide +kernel, by decide +kernel⟩
theorem ok_raise {f : Addr} {fd : FuncData} (F : Fun K "_law_raise" "_law_raise" sRaise f fd) (T : TxtX K mg cs fi tT uT) (G : Inits P w K mg base cs fi fdi) : FnOk P w K mg base (L2.CX P w) 3 f fd ["_law_which", "_law_it"] (spRaise cs) := by
  refine F.okX scRaise (fun vs H Q E h => ?_) (fun cdv A outer s H vs Q E hr h => ?_)
  · obtain ⟨i, v, rfl, _⟩ := h
    rfl
  · obtain ⟨i, v, rfl, h⟩ := h
    refine ⟨_, pss_cons (ps_if (pt_cmpR op_eq (pv 0) pe_int (nomark _)) (pss_one (ps_raise rfl (takes_of rfl rfl rfl rfl)
        (pmk_retX rfl (pe_xmk famV (T.x 8 (by decide)) (T.iC 8 (by decide) (by decide)) (T.tI 8 (by decide) (by decide)) (G 8 (by decide) (by decide)).1 hr (G 8 (by decide) (by decide)).2.1 rfl (T.g 8 (by decide)) (pv 1))))) pss_nil)
      (pss_cons (ps_if (pt_cmpR op_eq (pv 0) pe_int (nomark _)) (pss_one (ps_raise rfl (takes_of rfl rfl rfl rfl)
        (pmk_retX rfl (pe_xmk famV (T.x 11 (by decide)) (T.iC 11 (by decide) (by decide)) (T.tI 11 (by decide) (by decide)) (G 11 (by decide) (by decide)).1 hr (G 11 (by decide) (by decide)).2.1 rfl (T.g 11 (by decide)) (pv 1))))) pss_nil)
      (pss_cons (ps_if (pt_cmpR op_eq (pv 0) pe_int (nomark _)) (pss_one (ps_raise rfl (takes_of rfl rfl rfl rfl)
        (pmk_retX rfl (pe_xmk famK (T.x 14 (by decide)) (T.iC 14 (by decide) (by decide)) (T.tI 14 (by decide) (by decide)) (G 14 (by decide) (by decide)).1 hr (G 14 (by decide) (by decide)).2.1 rfl (T.g 14 (by decide)) (pv 1))))) pss_nil)
      (pss_cons (ps_if (pt_cmpR op_eq (pv 0) pe_int (nomark _)) (pss_one (ps_raise rfl (takes_of rfl rfl rfl rfl)
        (pmk_retX rfl (pe_xmk famK (T.x 15 (by decide)) (T.iC 15 (by decide) (by decide)) (T.tI 15 (by decide) (by decide)) (G 15 (by decide) (by decide)).1 hr (G 15 (by decide) (by decide)).2.1 rfl (T.g 15 (by decide)) (pv 1))))) pss_nil)
      (pss_cons (ps_if (pt_cmpR op_eq (pv 0) pe_int (nomark _)) (pss_one (ps_raise rfl (takes_of rfl rfl rfl rfl)
        (pmk_ret rfl (pe_xbare PySem.F.excBase_ValueError (T.q 4 (by decide)) (T.g 4 (by decide)) (T.x 4 (by decide)).kC rfl)))) pss_nil)
      (pss_one (ps_raise rfl (takes_of rfl rfl rfl rfl) (pmk_ret rfl (pe_xbare PySem.F.excBase_ValueError (T.q 7 (by decide)) (T.g 7 (by decide)) (T.x 7 (by decide)).kC rfl)))))))), ?_⟩
    have fin : ∀ (i : Nat), i < 17 → (∀ (d : Addr) (H' : Hp), Same H H' → H d = none → H' d = some (.xd [(fld i, v)]) → E (.ref (cs i)) (some d) H') → ∀ (e dx : Addr) (H2 : Hp), Same H H2 → H e = none → H dx = none → XAt H2 e (cs i) dx (fld i) v →
        H2 e = some (exo e (cs i) (some dx)) ∧ H2 dx = some (exd dx [(fld i, v)]) ∧ dx ≠ e ∧ E (.ref (cs i)) (some dx) (upd (delH H2 e) dx (.xd [(fld i, v)])) := fun i hi k e dx H2 s2 ne nd xa => by
      refine ⟨xa.2.1, xa.2.2, xa.1, k dx _ (fun b o q => ?_) nd upd_same⟩
      rw [upd_ne (ne_of_none q nd), delH_ne (ne_of_none q ne)]
      exact s2 b o q
    rcases h with ⟨hi, k⟩ | ⟨hi, k⟩
    · obtain rfl | rfl | rfl | rfl := hi
      · refine ⟨_, rfl, rfl, _, rfl, ?_⟩
        refine ite_ (fun _ => ⟨_, rfl, fun e dx H2 s2 ne nd xa => ?_⟩) (fun h => absurd rfl h)
        obtain ⟨h1, h2, h3, h4⟩ := fin 8 (by decide) k e dx H2 s2 ne nd xa
        exact ⟨e, cs 8, dx, _, rfl, h1, h2, h3, fr0_none ne, raises_own (T.x 8 (by decide)).exC (T.x 8 (by decide)).tyC, h4⟩
      · refine ⟨_, rfl, rfl, _, rfl, ?_⟩
        refine ite_ (fun h => absurd h (by decide)) (fun _ => ?_)
        refine ⟨_, rfl, rfl, _, rfl, ?_⟩
        refine ite_ (fun _ => ⟨_, rfl, fun e dx H2 s2 ne nd xa => ?_⟩) (fun h => absurd rfl h)
        obtain ⟨h1, h2, h3, h4⟩ := fin 11 (by decide) k e dx H2 s2 ne nd xa
        exact ⟨e, cs 11, dx, _, rfl, h1, h2, h3, fr0_none ne, raises_own (T.x 11 (by decide)).exC (T.x 11 (by decide)).tyC, h4⟩
      · refine ⟨_, rfl, rfl, _, rfl, ?_⟩
        refine ite_ (fun h => absurd h (by decide)) (fun _ => ?_)
        refine ⟨_, rfl, rfl, _, rfl, ?_⟩
        refine ite_ (fun h => absurd h (by decide)) (fun _ => ?_)
        refine ⟨_, rfl, rfl, _, rfl, ?_⟩
        refine ite_ (fun _ => ⟨_, rfl, fun e dx H2 s2 ne nd xa => ?_⟩) (fun h => absurd rfl h)
        obtain ⟨h1, h2, h3, h4⟩ := fin 14 (by decide) k e dx H2 s2 ne nd xa
        exact ⟨e, cs 14, dx, _, rfl, h1, h2, h3, fr0_none ne, raises_own (T.x 14 (by decide)).exC (T.x 14 (by decide)).tyC, h4⟩
      · refine ⟨_, rfl, rfl, _, rfl, ?_⟩
        refine ite_ (fun h => absurd h (by decide)) (fun _ => ?_)
        refine ⟨_, rfl, rfl, _, rfl, ?_⟩
        refine ite_ (fun h => absurd h (by decide)) (fun _ => ?_)
        refine ⟨_, rfl, rfl, _, rfl, ?_⟩
        refine ite_ (fun h => absurd h (by decide)) (fun _ => ?_)
        refine ⟨_, rfl, rfl, _, rfl, ?_⟩
        refine ite_ (fun _ => ⟨_, rfl, fun e dx H2 s2 ne nd xa => ?_⟩) (fun h => absurd rfl h)
        obtain ⟨h1, h2, h3, h4⟩ := fin 15 (by decide) k e dx H2 s2 ne nd xa
        exact ⟨e, cs 15, dx, _, rfl, h1, h2, h3, fr0_none ne, raises_own (T.x 15 (by decide)).exC (T.x 15 (by decide)).tyC, h4⟩
    · have bare : ∀ (i : Nat), i < 17 → (∀ H', Same H H' → E (.ref (cs i)) none H') → ∀ a, H a = none → ∃ (a' : Addr) (cls : Value), V.ref a = .ref a' ∧ upd H a (ExO (.ref (cs i)) a) a' = some (ExO cls a') ∧ Fr0 H a' ∧
          Raises (cxOf (L2.CX P w) P w K mg base ["_law_which", "_law_it"] "_law_raise" (defScope sRaise) f cdv A outer s H E) cls ∧ E cls none (delH (upd H a (ExO (.ref (cs i)) a)) a') := fun i hi k a ha => by
        refine ⟨a, .ref (cs i), rfl, upd_same, fr0_none ha, raises_own (T.x i hi).exC (T.x i hi).tyC, ?_⟩
        rw [delH_new ha]
        exact k H (Same.refl H)
      obtain rfl | rfl := hi
      · refine ⟨_, rfl, rfl, _, rfl, ?_⟩
        refine ite_ (fun h => absurd h (by decide)) (fun _ => ?_)
        refine ⟨_, rfl, rfl, _, rfl, ?_⟩
        refine ite_ (fun h => absurd h (by decide)) (fun _ => ?_)
        refine ⟨_, rfl, rfl, _, rfl, ?_⟩
        refine ite_ (fun h => absurd h (by decide)) (fun _ => ?_)
        refine ⟨_, rfl, rfl, _, rfl, ?_⟩
        refine ite_ (fun h => absurd h (by decide)) (fun _ => ?_)
        refine ⟨_, rfl, rfl, _, rfl, ?_⟩
        exact ite_ (fun _ => bare 4 (by decide) k) (fun h => absurd rfl h)
      · refine ⟨_, rfl, rfl, _, rfl, ?_⟩
        refine ite_ (fun h => absurd h (by decide)) (fun _ => ?_)
        refine ⟨_, rfl, rfl, _, rfl, ?_⟩
        refine ite_ (fun h => absurd h (by decide)) (fun _ => ?_)
        refine ⟨_, rfl, rfl, _, rfl, ?_⟩
        refine ite_ (fun h => absurd h (by decide)) (fun _ => ?_)
        refine ⟨_, rfl, rfl, _, rfl, ?_⟩
        refine ite_ (fun h => absurd h (by decide)) (fun _ => ?_)
        refine ⟨_, rfl, rfl, _, rfl, ?_⟩
        refine ite_ (fun h => absurd h (by decide)) (fun _ => ?_)
        exact bare 7 (by decide) k
end
end Vk
namespace Vk
open PySem PySem.Spec PyProof.Rows L2
/-- a promise that may lean on: no repr is under way -/
structure FnG (P : Program) (w : World) (K : PySem.W.Frag) (mg : Str → Option Value) (base : Heap) (CX : CXT) (k : Nat) (f : Addr) (fd : FuncData) (ps : List Str) (sp : Sp) : Prop where
  lenG : ∀ vs H Q E, sp vs H Q E → vs.length = ps.length
  runG : ∀ (A : Around) (below : List Env) (s : Shared) (H : Hp) (gs : Args) (us : List Value) (vs : List V) (Q : VK) (E : XK), A.guards = some [] → Room k A → Env0 P w K mg base A below s H → BindsTo s fd gs (ps.zip us) → Vals vs us →
    sp vs H Q E → codeAny (model P w) A (.call (.ref f) gs) (CR CX below P w H s Q E) s
section
variable {P : Program} {w : World} {K : PySem.W.Frag} {mg : Str → Option Value} {base : Heap}
theorem okG {CX : CXT} {x qual : Str} {st : Stmt} {f : Addr} {fd : FuncData} {N ps : List Str} {k : Nat} {sp : Sp} (F : Fun K x qual st f fd) (S : FnScope N ps (defScope st)) (len : ∀ vs H Q E, sp vs H Q E → vs.length = ps.length)
    (hbody : ∀ (cdv : Value) (A : Around) (below : List Env) (s : Shared) (H : Hp) (vs : List V) (Q : VK) (E : XK), A.guards = some [] → Room k (A.deeper (envOfC qual (defScope st) s.heap.objs.size f cdv)) → sp vs H Q E →
      ∃ t, PSs (cxOf CX P w K mg base N qual (defScope st) f cdv A below s H E) (defBody st) t ∧ t { nx := fun _ H' => Q .non H', rt := Q } (start N vs) H) : FnG P w K mg base CX (k + 1) f fd ps sp := by
  obtain ⟨oc, od, kV, doc, pm, an, cdv, ct, osl, rfl, lk, hcd⟩ := F.ex
  constructor
  · exact len
  intro A below s H gs us vs Q E ag room z bd rel want
  have KX : K.In s.heap := z.mod.kin.keeps fun b o e => (z.bs b o e).1
  have calm : s.heap.NoLimit := z.mod.nolimit.keeps fun b o e => (z.bs b o e).1
  have kinds : ∀ y ∈ ps.zip us, (defScope st).names.lookup y.1 = some .local ∨ ((defScope st).names.lookup y.1 = some .cell ∧ ((cellsFrom (s.heap.objs.size + 1) (defScope st).names []).lookup y.1).isSome = true) := by
    rintro ⟨n, v⟩ hy
    exact (S.par n (List.of_mem_zip hy).1).imp id fun q => ⟨q, PySem.W.cellsFrom_some _ _ _ (.inl q)⟩
  refine codeAny_call_function room.depth (KX _ _ lk) rfl S.co S.gen rfl (PySem.W.codeRec_of KX hcd) (bd _ _ _ _ ?_)
  refine wpAny_newFunctionEnv_cells S.kind kinds fun env same s1 x => ?_
  cases same
  refine ⟨calm.keeps x.toInCall.keep, codeAny_func ?_⟩
  obtain ⟨t, ht, go⟩ := hbody cdv A below s H vs Q E ag (room.deeper _) want
  have J := inv_start (CX := CX) (E := E) (P := P) (w := w) (K := K) (mg := mg) S room.hd z (len _ _ _ _ want) rel x
  refine wpAny_mono (ht.run [] s1 (start N vs) H _ J go) (fun fl s' got => ?_) fun _ _ got => got
  cases fl with
  | ret u => exact let ⟨v, _, H', J', rv, q⟩ := got; ⟨v, H', J'.os, J'.bare, J'.base, J'.hok, rv, q⟩
  | next => exact let ⟨_, H', J', q⟩ := got; ⟨.non, H', J'.os, J'.bare, J'.base, J'.hok, rfl, q⟩
  | brk => exact (let ⟨_, _, _, q⟩ := got; q : False).elim
  | cont => exact (let ⟨_, _, _, q⟩ := got; q : False).elim
theorem okG0 {x qual : Str} {st : Stmt} {f : Addr} {fd : FuncData} {N ps : List Str} {k : Nat} {sp : Sp} (F : Fun K x qual st f fd) (S : FnScope N ps (defScope st)) (len : ∀ vs H Q E, sp vs H Q E → vs.length = ps.length)
    (hbody : ∀ (cdv : Value) (A : Around) (below : List Env) (s : Shared) (H : Hp) (vs : List V) (Q : VK) (E : XK), A.guards = some [] → Room k (A.deeper (envOfC qual (defScope st) s.heap.objs.size f cdv)) → sp vs H Q E →
      ∃ t, PSs (cxOf CX0 P w K mg base N qual (defScope st) f cdv A below s H E).nox (defBody st) t ∧ t { nx := fun _ H' => Q .non H', rt := Q } (start N vs) H) : FnG P w K mg base CX0 (k + 1) f fd ps sp :=
  okG F S len fun cdv A below s H vs Q E ag room want => (hbody cdv A below s H vs Q E ag room want).imp fun t h => ⟨h.1.nox, h.2⟩
end
section
variable {X : Cx} {CX : CXT} {k : Nat} {f : Addr} {fd : FuncData} {ps : List Str} {sp : Sp} {x : Str} {p pos : Pos} {e : Expr} {es : List Expr} {t : TA}
theorem pe_callG (F : FnG X.prog X.w X.K X.mg X.base CX0 k f fd ps sp) (ag : X.A.guards = some []) (room : Room k X.A) (hg : Gl X x) (hm : X.mg x = some (.ref f)) (hk : PySem.W.keepIn X.K (.ref f) = true) (hb : Binds X.K fd ps [])
    (ha : PA X (e :: es) t) (nd : (x == ("__debug__" : Str)) = false := by decide) (one : starEach (e :: es) X.env = (false, eval e X.env) :: starEach es X.env := by rfl) (plain : (backTo pos (starEach es X.env)).any (·.1) = false := by rfl) :
    PE X (.Call (.Name x p) (e :: es) [] pos) (tCall sp [] E0 t) := by
  constructor
  intro pins s σ H Q I h
  refine wpAny_Call_Name_kw (ld_glob I hg hm (PySem.W.callWith_K (h₀ := X.base) I.ok.mod.kin hk (thn (ha.run pos pins s σ H _ I h) ?_) one plain) nd)
  rintro us s1 ⟨vs, H1, I1, rel, want⟩
  rw [List.append_nil] at want
  refine ⟨I1.kIn, wpAny_call (codeAny_mono (F.runG X.A X.stack s1 H1 ⟨us, []⟩ us vs Q E0 ag room I1.env0 ?_ rel want) ?_)⟩
  · have z := hb s1 us I1.kIn (by rw [List.append_nil, ← rel.length]; exact F.lenG _ _ _ _ want)
    rwa [List.append_nil] at z
  · intro r s' got
    match r, got with
    | .ok (.ret u), got => exact I1.after got
end
/-- the call of the law itself -/
theorem law_callG {P : Program} {w : World} {K : PySem.W.Frag} {mg mb : Str → Option Value} {k : Nat} {fa a : Addr} {fd : FuncData} {x : Str} {sp : Sp} {s₁ : Shared} {vs : List Value} {ns : List Int}
    (KX : K.In s₁.heap) (hns : s₁.heap.Ns mainGlobals mg) (hb : s₁.heap.Ns builtinsNs mb) (hbb : ∀ x : Str, x ≠ "__name__" → mb x = bootBuiltins x) (hlim : s₁.heap.NoLimit) (hg : s₁.gens = #[])
    (ha : s₁.heap.get? a = some { cls := .type "list", data := .seq vs.toArray }) (hi : IntsAre vs ns) (hl : ns.length ≤ sizeLine) (room : Room k callerA)
    (F : ∀ base : Heap, K.In base → base.Ns mainGlobals mg → FnG P w K mg base CX0 k fa fd [x] sp) (bd : ∀ (s : Shared) (u : Value), BindsTo s fd ⟨[u], []⟩ [(x, u)])
    (want : ∀ H : Hp, Only H → SqL K H a (ns.map V.int) → sp [.ref a] H (fun v _ => v = .bl true) fun _ _ _ => False) :
    codeAny (model P w) callerA (.call (.ref fa) ⟨[.ref a], []⟩) (fun r s' => r = .ok (.ret (.bool true)) ∧ OldK s₁.heap s'.heap ∧ s'.os = s₁.os ∧ AllBare s'.gens) s₁ := by
  have key : ∀ H : Hp, (∀ b u, H b = some u → b = a ∧ K.lookup a = none ∧ ∃ o xs, u = .frz o (.lst xs)) → SqL K H a (ns.map V.int) → HOk P w H s₁.heap →
      codeAny (model P w) callerA (.call (.ref fa) ⟨[.ref a], []⟩) (fun r s' => r = .ok (.ret (.bool true)) ∧ OldK s₁.heap s'.heap ∧ s'.os = s₁.os ∧ AllBare s'.gens) s₁ := by
    intro H own hS hok
    have nonev : ∀ {b : Addr}, (∀ u, H b ≠ some u) → H b = none := fun {b} n => by
      cases q : H b with
      | none => rfl
      | some u => exact absurd q (n u)
    have only : Only H := fun b => by
      cases q : H b with
      | none => exact .inl rfl
      | some u => exact let ⟨_, _, o, xs, e⟩ := own b u q; .inr ⟨o, xs, by rw [e]⟩
    have space : ∀ {b : Addr} {m : Str → Option Value}, s₁.heap.Ns b m → (hidT s₁.heap H).Ns b m := by
      rintro b m ⟨o, es, ep, e, d, r⟩
      refine ⟨o, es, ep, hidT_get e (nonev fun u z => ?_), d, r⟩
      rw [(own b u z).1, ha] at e
      cases e
      cases d
    have kb : K.In (hidT s₁.heap H) := fun b o e => hidT_get (KX b o e) (nonev fun u z => by
      obtain ⟨rfl, q, _⟩ := own b u z
      rw [q] at e
      cases e)
    obtain ⟨mc, c1, c2⟩ := hlim
    have z0 : Env0 P w K mg (hidT s₁.heap H) callerA [] s₁ H :=
      { frames := rfl, mod := ⟨kb, space hns, ⟨mb, space hb, hbb⟩, ⟨mc, space c1, c2⟩⟩, bs := fun b o e => of_hidT e, bsz := Nat.le_of_eq (hidT_size _ _), funs := trivial, frf := fun b hb => absurd (show b ∈ ([] : List Addr) from hb) (by simp), hok := hok, bare := .of_eq hg }
    refine codeAny_mono ((F _ kb (space hns)).runG callerA [] s₁ H ⟨[.ref a], []⟩ [.ref a] [.ref a] _ _ rfl room z0 (bd s₁ (.ref a)) (.cons rfl .nil) (want H only hS)) ?_
    intro r s' got
    match r, got with
    | .ok (.ret u), got =>
      obtain ⟨v, H', os, bare, un, hok', rv, ev⟩ := got
      have ev' : v = .bl true := ev
      subst ev'
      obtain rfl : u = Value.bool true := rv
      refine ⟨rfl, OldK.of_keep fun b o e => ?_, os, bare⟩
      cases q : H b with
      | none => exact un.keep b o e q (fun z => nomatch (show b ∈ ([] : List Addr) from z)) (by simp)
      | some u =>
        obtain ⟨_, _, ob, xs, rfl⟩ := own b u q
        have e1 := (hok b _ q).1
        rw [e] at e1
        cases e1
        exact (hok' b _ (un.frzs b o _ q)).1
  have rel := vals_ints hi
  cases lk : K.lookup a with
  | some o =>
    have e := KX a o lk
    rw [ha] at e
    cases e
    exact key (fun _ => none) (fun b u z => nomatch (show (none : Option HO) = some u from z)) (.inr ⟨_, vs.toArray, _, lk, rfl, rfl, rfl, by rw [List.size_toArray, hi.length]; exact hl, by simpa using rel⟩) (fun b u z => nomatch (show (none : Option HO) = some u from z))
  | none =>
    have at_a : ∀ {b : Addr} {u : HO}, (if b = a then some (HO.frz { cls := .type "list", data := .seq vs.toArray } (.lst (ns.map V.int))) else none) = some u → b = a ∧ u = .frz { cls := .type "list", data := .seq vs.toArray } (.lst (ns.map V.int)) := fun {b u} z => by
      split at z
      · rename_i e
        exact ⟨e, (Option.some.inj z).symm⟩
      · cases z
    refine key (fun b => if b = a then some (.frz { cls := .type "list", data := .seq vs.toArray } (.lst (ns.map V.int))) else none) (fun b u z => ⟨(at_a z).1, lk, _, _, (at_a z).2⟩) (.inl (.inr ⟨_, if_pos rfl⟩)) (fun b u z => ?_)
    obtain ⟨rfl, rfl⟩ := at_a z
    exact ⟨ha, by rw [List.length_map]; exact hl, vs, _, rel, ha⟩
theorem walkG {l : PySem.W.OpenLaw} {n k : Nat} {q : Program} {loose : List Str} {XP : (Str → Option Value) → Heap → Prop} {YP : World → Heap → Prop} {d : DefRec} {K : Params → PySem.W.Frag} {sp : PySem.W.Frag → Sp} {x : Str}
    (most : l.most = some n) (n0 : n ≤ sizeLine) (nodef : d.params.defaults = []) (room : Room k callerA) (inY : ∀ (w : World) (h : Heap), YP w h → (K w.params).In h)
    (F : ∀ (w : World) (mg : Str → Option Value) (fa : Addr) (h : Heap), (K w.params).In h → h.Ns mainGlobals mg → mg d.name = some (.ref fa) →
      ∃ fd : FuncData, (∀ (s : Shared) (u : Value), BindsTo s fd ⟨[u], []⟩ [(x, u)]) ∧ ∀ base : Heap, (K w.params).In base → base.Ns mainGlobals mg → FnG l.prog w (K w.params) mg base CX0 k fa fd [x] (sp (K w.params)))
    (want : ∀ (K : PySem.W.Frag) (H : Hp) (a : Addr) (ns : List Int), ns.length ≤ n → Only H → SqL K H a (ns.map V.int) → sp K [.ref a] H (fun v _ => v = .bl true) fun _ _ _ => False) :
    PySem.W.WalkO q loose XP YP l.row.toRowW d [] (fun f vs => PySem.call f vs) := by
  refine Att.attach_call most nodef ?_
  intro w s₀ s₁ mg mb fa o pm cd doc a vs ns G Y _ _ _ hmg hobj wh short gens
  have KX := inY w _ Y
  obtain ⟨fd, bd, ok⟩ := F w mg fa _ KX G.T.g hmg
  exact law_callG KX G.T.g G.T.b G.T.builtins G.T.nolimit gens hobj wh (Nat.le_trans short n0) room ok bd fun H o hS => want (K w.params) H a ns short o hS
end Vk
namespace Vk
open PySem L2
def wideOf (i : Nat) : Str := match i with
  | 8 => "" | 14 => "" | 15 => "unknown" | _ => "turn"
/-- which except clause takes an error of which class -/
structure TxtM (K : PySem.W.Frag) (cs : Nat → Addr) (tT uT : Addr) : Prop where
  e8 : ∀ i, i < 17 → PySem.W.exmOne K (.ref (cs i)) (.ref (cs 8)) = some (decide (i = 8))
  e14 : ∀ i, i < 17 → PySem.W.exmOne K (.ref (cs i)) (.ref (cs 14)) = some (decide (i = 14))
  eT : ∀ i, i < 17 → PySem.W.exmOne K (.ref (cs i)) (.ref tT) = some (decide (i < 13))
  eU : ∀ i, i < 17 → PySem.W.exmOne K (.ref (cs i)) (.ref uT) = some (!decide (i < 13))
def spRaised : Sp := fun vs H Q _ => ∃ (i : Nat) (v : V) (H0 : Hp) (x : Str) (bs : List Addr), vs = [.int i, v, .str (wideOf i)] ∧ (i = 8 ∨ i = 11 ∨ i = 14 ∨ i = 15 ∨ i = 4 ∨ i = 7) ∧ Dv H0 H v x 7 bs ∧ x.length ≤ sizeLine ∧
  ∀ H', Same H H' → Q (.bl true) H'
theorem XC.xf {K : PySem.W.Frag} {C : Addr} {nid : String} {tl : List Value} (T : XC K C nid tl) : XfC K C := ⟨T.ga, T.gg, T.exC, T.hd⟩
section
variable {P : Program} {w : World} {K : PySem.W.Frag} {mg : Str → Option Value} {base : Heap} {cs fi : Nat → Addr} {fdi : Nat → FuncData} {tT uT fR : Addr} {fdR : FuncData}
theorem scRaised : FnScope ["_law_which", "_law_it", "_law_wide", "_law_found", "e"] ["_law_which", "_law_it", "_law_wide"] (defScope sRaised) := ⟨rfl, rfl, rfl, by decide +kernel, rfl, by decide +kernel, by decide +kernel⟩
theorem ok_raised {f : Addr} {fd : FuncData} (F : Fun K "_law_raised" "_law_raised" sRaised f fd) (T : TxtX K mg cs fi tT uT) (M : TxtM K cs tT uT) (GR : FnOk P w K mg base (L2.CX P w) 3 fR fdR ["_law_which", "_law_it"] (spRaise cs))
    (gR : mg "_law_raise" = some (.ref fR)) (kR : PySem.W.keepIn K (.ref fR) = true) (bR : Binds K fdR ["_law_which", "_law_it"] []) : FnG P w K mg base CX0 4 f fd ["_law_which", "_law_it", "_law_wide"] spRaised := by
  refine okG0 F scRaised (fun vs H Q E h => ?_) (fun cdv A outer s H vs Q E ag hr h => ?_)
  · obtain ⟨i, v, H0, x, bs, rfl, _⟩ := h
    rfl
  · obtain ⟨i, v, H0, x, bs, rfl, hi, hv, hx, k⟩ := h
    have hu : (A.deeper (PyProof.Rows.envOfC "_law_raised" (defScope sRaised) s.heap.objs.size f cdv)).units + 16 < cLine := by
      have := hr.units
      omega
    refine ⟨_, pss_cons (ps_set (i := 3) scRaised.nd rfl (Or.inl rfl) pe_str)
      (pss_cons (ps_try_mix (tb := fun W => tDrop (tCallS (spRaise cs) (WE W) (tCons (tVar 0) (tCons (tVar 1) tNil)))) (Wout := fun _ _ _ _ => False) rfl rfl scRaised.nd takes0
        (fun W pn xe tk _ => pss_one (ps_expr (by exact (pe_callS GR hr rfl gR kR bR (fun σ => passAt tk σ) (by exact (pa_cons (pv 0) (pa_cons (pv 1) pa_nil)))))))
        (.named (i := 4) rfl rfl ⟨rfl, by decide, Or.inl (T.g 8 (by decide))⟩ (fun a oe cls d pn hz hf => pss_one (ps_set (i := 3) scRaised.nd rfl (Or.inl rfl) (by exact (pe_ifExp (PW.pt (pw_and (pt_cmpR op_eq (pv 0) pe_int (nomark _)) (pw_and1 (pt_cmpR op_eq
            (pe_callB (call_reprV ag hu) (by rfl) T.repr (by decide +kernel) (pa_cons (pe_xf (T.x 8 (by decide)).xf (T.no 8 (by decide) (by decide)) hz hf (pv 4)) pa_nil))
            (pe_callB (call_reprV ag hu) (by rfl) T.repr (by decide +kernel) (pa_cons (pv 1) pa_nil)) (nomark _))))) pe_str pe_str))))
        (.named (i := 4) rfl rfl ⟨rfl, by decide, Or.inl (T.g 14 (by decide))⟩ (fun a oe cls d pn hz hf => pss_one (ps_set (i := 3) scRaised.nd rfl (Or.inl rfl) (by exact (pe_ifExp (PW.pt (pw_and (pt_cmpR op_eq (pv 0) pe_int (nomark _)) (pw_and1 (pt_cmpR op_eq
            (pe_callB (call_reprV ag hu) (by rfl) T.repr (by decide +kernel) (pa_cons (pe_xf (T.x 14 (by decide)).xf (T.no 14 (by decide) (by decide)) hz hf (pv 4)) pa_nil))
            (pe_callB (call_reprV ag hu) (by rfl) T.repr (by decide +kernel) (pa_cons (pv 1) pa_nil)) (nomark _))))) pe_str pe_str))))
        (.plain ⟨rfl, by decide, Or.inl T.bT.g⟩ (fun a oe cls d pn hz hf => pss_one (ps_set (i := 3) scRaised.nd rfl (Or.inl rfl) pe_str))
        (.plain ⟨rfl, by decide, Or.inl T.bU.g⟩ (fun a oe cls d pn hz hf => pss_one (ps_set (i := 3) scRaised.nd rfl (Or.inl rfl) pe_str)) .nil)))))
      (pss_one (ps_ret (pe_cmpR op_eq (pv 3) (pe_ifExp (pt_cmpR op_in_seq (pv 0) (pe_tup (pa_cons pe_int (pa_cons pe_int pa_nil))) (by rfl)) pe_str (pv 2)) (nomark _))))), ?_⟩
    refine ⟨_, rfl, _, rfl, i, v, rfl, ?_⟩
    have keep : ∀ {H' : Hp}, Same H H' → Dv H0 H' v x 7 bs := fun {H'} s => hv.keep fun b _ o e => s b o e
    have fin : ∀ (z : Str) (H' : Hp), Same H H' → rEq (.str z) (.str z) H' Q := fun z H' s => ⟨rfl, by
      rw [decide_eq_true rfl]
      exact k H' s⟩
    obtain rfl | rfl | rfl | rfl | rfl | rfl := hi
    · refine .inl ⟨by simp, fun d H' s1 nd ed => ?_⟩
      refine ⟨true, M.e8 8 (by decide), fun _ a ha => ?_, fun q => nomatch q⟩
      refine ⟨_, rfl, rfl, _, rfl, ?_⟩
      refine iteT ?_
      refine ⟨_, rfl, rfl, rfl, d, _, v, rfl, ed, (by simp [fld, List.lookup]), ?_⟩
      refine ⟨H0, v, x, 7, bs, rfl, keep s1, by decide, hx, ?_⟩
      refine ⟨_, rfl, H0, v, x, 7, bs, rfl, keep s1, by decide, hx, rfl, _, rfl, ?_⟩
      have own : ∀ (Y : V → Hp → Prop), Y (.str "own") H' → (if decide (V.str x = V.str x) = true then Y (.str "own") H' else Y (.str "odd") H') := fun Y y => by
        rw [if_pos (decide_eq_true rfl)]
        exact y
      refine own (fun z H2 => tAsg (fun _ H3 Q3 => Q3 z H3) (gName 3) _ _ H2) ?_
      refine ⟨_, rfl, _, rfl, (by show 2 ≤ sizeLine; decide), fun p hp => ⟨p, _, rfl, .inr (SqT.of upd_same), rfl, rfl, _, rfl, ?_⟩⟩
      refine iteT ?_
      exact fin "own" _ (s1.trans (same_upd hp))
    · refine .inl ⟨by simp, fun d H' s1 nd ed => ?_⟩
      refine ⟨false, M.e8 11 (by decide), (fun q => nomatch q), fun _ => ?_⟩
      refine ⟨false, M.e14 11 (by decide), (fun q => nomatch q), fun _ => ?_⟩
      refine ⟨true, M.eT 11 (by decide), fun _ a ha => ?_, fun q => nomatch q⟩
      refine ⟨_, rfl, _, rfl, (by show 2 ≤ sizeLine; decide), fun p hp => ⟨p, _, rfl, .inr (SqT.of upd_same), rfl, rfl, _, rfl, ?_⟩⟩
      refine iteF ?_
      exact ⟨_, rfl, fin "turn" _ (s1.trans (same_upd hp))⟩
    · refine .inl ⟨by simp, fun d H' s1 nd ed => ?_⟩
      refine ⟨false, M.e8 14 (by decide), (fun q => nomatch q), fun _ => ?_⟩
      refine ⟨true, M.e14 14 (by decide), fun _ a ha => ?_, fun q => nomatch q⟩
      refine ⟨_, rfl, rfl, _, rfl, ?_⟩
      refine iteT ?_
      refine ⟨_, rfl, rfl, rfl, d, _, v, rfl, ed, (by simp [fld, List.lookup]), ?_⟩
      refine ⟨H0, v, x, 7, bs, rfl, keep s1, by decide, hx, ?_⟩
      refine ⟨_, rfl, H0, v, x, 7, bs, rfl, keep s1, by decide, hx, rfl, _, rfl, ?_⟩
      have own : ∀ (Y : V → Hp → Prop), Y (.str "own") H' → (if decide (V.str x = V.str x) = true then Y (.str "own") H' else Y (.str "odd") H') := fun Y y => by
        rw [if_pos (decide_eq_true rfl)]
        exact y
      refine own (fun z H2 => tAsg (fun _ H3 Q3 => Q3 z H3) (gName 3) _ _ H2) ?_
      refine ⟨_, rfl, _, rfl, (by show 2 ≤ sizeLine; decide), fun p hp => ⟨p, _, rfl, .inr (SqT.of upd_same), rfl, rfl, _, rfl, ?_⟩⟩
      refine iteT ?_
      exact fin "own" _ (s1.trans (same_upd hp))
    · refine .inl ⟨by simp, fun d H' s1 nd ed => ?_⟩
      refine ⟨false, M.e8 15 (by decide), (fun q => nomatch q), fun _ => ?_⟩
      refine ⟨false, M.e14 15 (by decide), (fun q => nomatch q), fun _ => ?_⟩
      refine ⟨false, M.eT 15 (by decide), (fun q => nomatch q), fun _ => ?_⟩
      refine ⟨true, M.eU 15 (by decide), fun _ a ha => ?_, fun q => nomatch q⟩
      refine ⟨_, rfl, _, rfl, (by show 2 ≤ sizeLine; decide), fun p hp => ⟨p, _, rfl, .inr (SqT.of upd_same), rfl, rfl, _, rfl, ?_⟩⟩
      refine iteF ?_
      exact ⟨_, rfl, fin "unknown" _ (s1.trans (same_upd hp))⟩
    · refine .inr ⟨by simp, fun H' s1 => ?_⟩
      refine ⟨false, M.e8 4 (by decide), (fun q => nomatch q), fun _ => ?_⟩
      refine ⟨false, M.e14 4 (by decide), (fun q => nomatch q), fun _ => ?_⟩
      refine ⟨true, M.eT 4 (by decide), fun _ a ha => ?_, fun q => nomatch q⟩
      refine ⟨_, rfl, _, rfl, (by show 2 ≤ sizeLine; decide), fun p hp => ⟨p, _, rfl, .inr (SqT.of upd_same), rfl, rfl, _, rfl, ?_⟩⟩
      refine iteF ?_
      exact ⟨_, rfl, fin "turn" _ (s1.trans (same_upd hp))⟩
    · refine .inr ⟨by simp, fun H' s1 => ?_⟩
      refine ⟨false, M.e8 7 (by decide), (fun q => nomatch q), fun _ => ?_⟩
      refine ⟨false, M.e14 7 (by decide), (fun q => nomatch q), fun _ => ?_⟩
      refine ⟨true, M.eT 7 (by decide), fun _ a ha => ?_, fun q => nomatch q⟩
      refine ⟨_, rfl, _, rfl, (by show 2 ≤ sizeLine; decide), fun p hp => ⟨p, _, rfl, .inr (SqT.of upd_same), rfl, rfl, _, rfl, ?_⟩⟩
      refine iteF ?_
      exact ⟨_, rfl, fin "turn" _ (s1.trans (same_upd hp))⟩
end
end Vk
namespace Vk
open PySem L2
def spLaw (K : PySem.W.Frag) : Sp := fun vs H Q _ => ∃ (a : Addr) (ns : List Int), vs = [.ref a] ∧ SqL K H a (ns.map V.int) ∧ ns.length ≤ 63 ∧ ∀ H', Q (.bl true) H'
theorem if_no {b : Bool} {A B : Prop} (e : b = false) (h : B) : if b = true then A else B := by
  rw [e]
  exact iteF h
theorem flagsLay : ∀ bs : List Bool, PyData.canLayAll0 (bs.map flag) = true
  | [] => rfl
  | b :: r => by
    have h := flagsLay r
    simp only [List.map_cons, PyData.canLayAll0, flag, PyData.canLay0, h, Bool.and_self]
theorem flagsDeep : ∀ bs : List Bool, PyData.depthAll (bs.map flag) = 0
  | [] => rfl
  | b :: r => by
    have h := flagsDeep r
    simp only [List.map_cons, PyData.depthAll, flag, PyData.depth, h, Nat.max_self]
theorem dueD_is (i : Nat) : dueD i = .tuple [.list (((List.range 17).map fun j => decide (j = i)).map flag), .list (([decide (i < 13), decide (i < 13)] : List Bool).map flag), .list (([!decide (i < 13), !decide (i < 13)] : List Bool).map flag)] := by
  rw [List.map_map]
  rfl
theorem due_shaped (i : Nat) : SeqAt.shaped (dueD i) = true := by
  rw [dueD_is]
  unfold SeqAt.shaped
  simp only [PyData.canLay0, PyData.canLayAll0, flagsLay, PyData.depth, PyData.depthAll, flagsDeep]
  rfl
theorem due_eq (i : Nat) : (!PyData.eqv (dueD i) (dueD i)) = false := by
  rw [SeqAt.eqv_refl (dueD i) (SeqAt.canLay_of_shaped (due_shaped i))]
  rfl
/-- the defs that the law calls -/
structure Calls (K : PySem.W.Frag) (mg : Str → Option Value) (x : Str) (f : Addr) : Prop where
  g : mg x = some (.ref f)
  k : PySem.W.keepIn K (.ref f) = true
section
variable {P : Program} {w : World} {K : PySem.W.Frag} {mg : Str → Option Value} {base : Heap} {cs fi : Nat → Addr} {fdi : Nat → FuncData} {tT uT fS fV fB fA fN fH fM fD fX : Addr} {fdS fdV fdB fdA fdN fdH fdM fdD fdX : FuncData}
theorem scLaw : FnScope ["_law_script", "_law_source_here", "_law_which", "_law_turn", "_law_it", "_law_kept", "_law_error", "_law_wide"] ["_law_script"] (defScope sLaw) := ⟨rfl, rfl, rfl, by decide +kernel, rfl, by decide +kernel, by decide +kernel⟩
theorem ok_law {f : Addr} {fd : FuncData} (F : Fun K "law" "law" sLaw f fd) (T : TxtX K mg cs fi tT uT)
    (GS : FnOk P w K mg base CX0 1 fS fdS ["_law_script"] (spSource K)) (cS : Calls K mg "_law_source" fS) (bS : Binds K fdS ["_law_script"] [])
    (GV : FnOk P w K mg base CX0 7 fV fdV ["_law_source_here", "_law_deep"] (spVal 3)) (cV : Calls K mg "_law_value" fV) (bV : Binds K fdV ["_law_source_here", "_law_deep"] [])
    (GB : FnOk P w K mg base CX0 1 fB fdB ["_law_which"] (spBare cs)) (cB : Calls K mg "_law_bare" fB) (bB : Binds K fdB ["_law_which"] [])
    (GA : FnOk P w K mg base CX0 3 fA fdA ["_law_which", "_law_it"] (spMade cs)) (cA : Calls K mg "_law_made" fA) (bA : Binds K fdA ["_law_which", "_law_it"] [])
    (GN : FnOk P w K mg base CX0 3 fN fdN ["_law_which", "_law_it"] (spMade cs)) (cN : Calls K mg "_law_made_by_name" fN) (bN : Binds K fdN ["_law_which", "_law_it"] [])
    (GH : FnOk P w K mg base CX0 1 fH fdH ["_law_which", "_law_error"] (spHeld cs)) (cH : Calls K mg "_law_held" fH) (bH : Binds K fdH ["_law_which", "_law_error"] [])
    (GM : FnOk P w K mg base CX0 1 fM fdM ["_law_error"] (spMarks K cs)) (cM : Calls K mg "_law_marks" fM) (bM : Binds K fdM ["_law_error"] [])
    (GD : FnOk P w K mg base CX0 1 fD fdD ["_law_which"] (spDue K)) (cD : Calls K mg "_law_due" fD) (bD : Binds K fdD ["_law_which"] [])
    (GX : FnG P w K mg base CX0 4 fX fdX ["_law_which", "_law_it", "_law_wide"] spRaised) (cX : Calls K mg "_law_raised" fX) (bX : Binds K fdX ["_law_which", "_law_it", "_law_wide"] []) :
    FnG P w K mg base CX0 8 f fd ["_law_script"] (spLaw K) := by
  refine okG0 F scLaw (fun vs H Q E h => ?_) (fun cdv A outer s H vs Q E ag hr h => ?_)
  · obtain ⟨a, ns, rfl, _⟩ := h
    rfl
  · obtain ⟨a, ns, rfl, hS, hlen, k⟩ := h
    have hu : (A.deeper (PyProof.Rows.envOfC "law" (defScope sLaw) s.heap.objs.size f cdv)).units + 16 < cLine := by
      have := hr.units
      omega
    have hr1 : Room 1 _ := hr.mono (by decide)
    have hr3 : Room 3 _ := hr.mono (by decide)
    have hr4 : Room 4 _ := hr.mono (by decide)
    refine ⟨_, pss_cons (ps_set (i := 1) scLaw.nd rfl (Or.inl rfl) (pe_call GS hr1 rfl cS.g cS.k bS .nil pass0 (pa_cons (pv 0) pa_nil)))
      (pss_cons (ps_for PassesOwn.never rfl (pi_range1 rfl T.range (pa_cons pe_int pa_nil)) (pg_name (i := 2) scLaw.nd rfl (Or.inl rfl))
        (pss_one (ps_if (pt_cmpR (op_neD hr.units) (pe_call GM hr1 rfl cM.g cM.k bM .nil pass0 (pa_cons (pe_call GB hr1 rfl cB.g cB.k bB .nil pass0 (pa_cons (pv 2) pa_nil)) pa_nil)) (pe_call GD hr1 rfl cD.g cD.k bD .nil pass0 (pa_cons (pv 2) pa_nil)) (nomark _))
          (pss_one (ps_ret pe_bl)) pss_nil)))
      (pss_cons (ps_for PassesOwn.never rfl (pi_range1 rfl T.range (pa_cons pe_int pa_nil)) (pg_name (i := 3) scLaw.nd rfl (Or.inl rfl))
        (pss_cons (ps_set (i := 4) scLaw.nd rfl (Or.inl rfl) (pe_call GV hr rfl cV.g cV.k bV .nil pass0 (pa_cons (pv 1) (pa_cons pe_int pa_nil))))
        (pss_cons (ps_set (i := 5) scLaw.nd rfl (Or.inl rfl) (pe_callB (call_reprV ag hu) (by rfl) T.repr (by decide +kernel) (pa_cons (pv 4) pa_nil)))
        (pss_cons (ps_for PassesOwn.never rfl (pi_range2 rfl T.range (pa_cons pe_int (pa_cons pe_int pa_nil))) (pg_name (i := 2) scLaw.nd rfl (Or.inl rfl))
          (pss_one (ps_for PassesOwn.never rfl (pi_tup (pe_tup (pa_cons (pe_call GA hr3 rfl cA.g cA.k bA .nil pass0 (pa_cons (pv 2) (pa_cons (pv 4) pa_nil))) (pa_cons (pe_call GN hr3 rfl cN.g cN.k bN .nil pass0 (pa_cons (pv 2) (pa_cons (pv 4) pa_nil))) pa_nil))))
              (pg_name (i := 6) scLaw.nd rfl (Or.inl rfl))
            (pss_one (ps_if (PW.pt (pw_or (pt_cmpR (op_neD hr.units) (pe_call GM hr1 rfl cM.g cM.k bM .nil pass0 (pa_cons (pv 6) pa_nil)) (pe_call GD hr1 rfl cD.g cD.k bD .nil pass0 (pa_cons (pv 2) pa_nil)) (nomark _))
                (pw_or1 (pt_cmpR op_ne (pe_callB (call_reprV ag hu) (by rfl) T.repr (by decide +kernel) (pa_cons (pe_call GH hr1 rfl cH.g cH.k bH .nil pass0 (pa_cons (pv 2) (pa_cons (pv 6) pa_nil))) pa_nil)) (pv 5) (nomark _)))))
              (pss_one (ps_ret pe_bl)) pss_nil)))))
        (pss_cons (ps_for PassesOwn.never rfl (pi_tup (pe_tup (pa_cons (pe_tup (pa_cons pe_int (pa_cons pe_str pa_nil))) (pa_cons (pe_tup (pa_cons pe_int (pa_cons pe_str pa_nil))) (pa_cons (pe_tup (pa_cons pe_int (pa_cons pe_str pa_nil)))
              (pa_cons (pe_tup (pa_cons pe_int (pa_cons pe_str pa_nil))) (pa_cons (pe_tup (pa_cons pe_int (pa_cons pe_str pa_nil))) (pa_cons (pe_tup (pa_cons pe_int (pa_cons pe_str pa_nil))) pa_nil))))))))
            (pg_tup rfl (pgs_cons (pg_name (i := 2) scLaw.nd rfl (Or.inl rfl)) (pgs_cons (pg_name (i := 7) scLaw.nd rfl (Or.inl rfl)) pgs_nil)))
          (pss_one (ps_if (pt_not (pt_truth (pe_callG GX ag hr4 rfl cX.g cX.k bX (pa_cons (pv 2) (pa_cons (pv 4) (pa_cons (pv 7) pa_nil)))) (fun _ => rfl))) (pss_one (ps_ret pe_bl)) pss_nil)))
        (pss_one (ps_if (pt_cmpR op_ne (pe_callB (call_reprV ag hu) (by rfl) T.repr (by decide +kernel) (pa_cons (pv 4) pa_nil)) (pv 5) (nomark _)) (pss_one (ps_ret pe_bl)) pss_nil)))))))
      (pss_one (ps_ret pe_bl)))), ?_⟩
    refine ⟨_, rfl, a, ns, rfl, hS, hlen, fun H1 s l ms z s1 _ _ src => ?_⟩
    refine ⟨8, rfl, by decide, by decide, for_range (lo := 0) (n := 8) (fun i σ H' => ∃ v2 : Option V, σ = [some (.ref a), some (.ref s), v2, none, none, none, none, none] ∧ Src H' s l ms z 0) ⟨none, rfl, src⟩ ?_ ?_⟩
    · rintro i σ H2 hi ⟨v2, rfl, src2⟩
      have ei : (0 : Int) + (i : Int) = (i : Int) := Int.zero_add _
      refine ⟨_, rfl, i, by rw [ei]; rfl, hi, fun e H3 s3 _ xo => ⟨e, i, rfl, by omega, xo, fun p1 H4 s4 d4 => ?_⟩⟩
      refine ⟨_, rfl, i, by rw [ei]; rfl, by omega, fun p2 H5 s5 d5 => ?_⟩
      refine ⟨dueD i, dueD i, Dp.keep s5 d4, d5, due_shaped i, due_shaped i, _, rfl, if_no (due_eq i) ?_⟩
      exact ⟨_, rfl, ((src2.but s3).but s4).but s5⟩
    rintro σ H2 ⟨v2, rfl, src2⟩
    refine ⟨12, rfl, by decide, by decide, for_range (lo := 0) (n := 12) (fun t σ H' => ∃ (v2 v3 v4 v5 v6 v7 : Option V) (ms' : List Int) (b : Int), σ = [some (.ref a), some (.ref s), v2, v3, v4, v5, v6, v7] ∧ Src H' s l ms' z b ∧ 0 ≤ b ∧ b ≤ 67 * (t : Int))
      ⟨_, _, _, _, _, _, _, _, rfl, src2, by decide, by decide⟩ ?_ ?_⟩
    · rintro t σ H3 ht ⟨v2, v3, v4, v5, v6, v7, ms3, b3, rfl, src3, b0, b1⟩
      refine ⟨_, rfl, s, l, ms3, z, b3, rfl, src3, b0, (by show b3 + 67 < 800000; omega), fun H4 ms4 b4 v x bs k4 src4 c0 c1 dv hx => ?_⟩
      have c2 : b4 ≤ b3 + 67 := c1
      have dv7 : Dv H3 H4 v x 7 bs := dv
      have hx1 : x.length ≤ sizeLine := Nat.le_trans hx (by decide)
      have keep : ∀ {H' : Hp}, Same H4 H' → Dv H3 H' v x 7 bs := fun {H'} s => dv7.keep fun b _ o e => s b o e
      have same_x : (!decide (V.str x = V.str x)) = false := by
        rw [decide_eq_true rfl]
        rfl
      refine ⟨_, rfl, H3, v, x, 7, bs, rfl, dv7, by decide, hx1, ?_⟩
      refine ⟨8, 17, rfl, ⟨by decide, by decide, by decide, by decide⟩, for_range (lo := 8) (n := 9) (fun j σ H' => ∃ v2 v6 : Option V, σ = [some (.ref a), some (.ref s), v2, some (.int (0 + (t : Int))), some v, some (.str x), v6, v7] ∧ Same H4 H') ⟨_, _, rfl, Same.refl H4⟩ ?_ ?_⟩
      · rintro j σ H5 hj ⟨w2, w6, rfl, s5⟩
        obtain ⟨i, ei, i8, i17⟩ : ∃ i : Nat, (8 : Int) + (j : Int) = (i : Int) ∧ 8 ≤ i ∧ i < 17 := ⟨8 + j, by omega, by omega, by omega⟩
        rw [ei]
        refine ⟨_, rfl, _, rfl, i, v, rfl, i8, i17, fun e1 dx1 H6 s6 _ _ xa1 => ⟨_, rfl, _, rfl, i, v, rfl, i8, i17, fun e2 dx2 H7 s7 _ _ xa2 => ⟨(by show 2 ≤ sizeLine; decide), fun p hp => ?_⟩⟩⟩
        have s8 : Same H7 (upd H7 p (.tup [.ref e1, .ref e2])) := same_upd hp
        have s48 := ((s5.trans s6).trans s7).trans s8
        have xb1 := (xa1.keep s7).keep s8
        have xb2 := xa2.keep s8
        refine ⟨p, rfl, ⟨_, SqT.of upd_same⟩, for_tup (xs := [.ref e1, .ref e2]) (fun q σ H' => ∃ v6 : Option V, σ = [some (.ref a), some (.ref s), some (.int (i : Int)), some (.int (0 + (t : Int))), some v, some (.str x), v6, v7] ∧ Same (upd H7 p (.tup [.ref e1, .ref e2])) H') ⟨_, rfl, Same.refl _⟩
          (fun q σ H' _ ⟨_, _, sq⟩ => sameT sq (SqT.of upd_same)) ?_ ?_⟩
        · rintro q y σ H9 hq ⟨w6, rfl, s9⟩
          obtain ⟨e, dx, rfl, xa⟩ : ∃ e dx, y = V.ref e ∧ XAt H9 e (cs i) dx (fld i) v := by
            match q, hq with
            | 0, hq => exact ⟨e1, dx1, (Option.some.inj hq).symm, xb1.keep s9⟩
            | 1, hq => exact ⟨e2, dx2, (Option.some.inj hq).symm, xb2.keep s9⟩
          refine ⟨_, rfl, e, i, rfl, i17, xa.obj, fun p1 Ha sa da => ⟨_, rfl, i, rfl, i17, fun p2 Hb sb db => ?_⟩⟩
          refine ⟨dueD i, dueD i, Dp.keep sb da, db, due_shaped i, due_shaped i, _, rfl, if_no (due_eq i) ?_⟩
          refine ⟨_, rfl, _, rfl, i, e, dx, v, rfl, i8, i17, (xa.keep sa).keep sb, fun Hc sc => ?_⟩
          have s9c := ((s9.trans sa).trans sb).trans sc
          refine ⟨H3, v, x, 7, bs, rfl, keep (s48.trans s9c), by decide, hx1, _, rfl, rfl, _, rfl, if_no same_x ?_⟩
          exact ⟨_, rfl, s9c⟩
        · rintro σ H9 ⟨w6, rfl, s9⟩
          exact ⟨_, _, rfl, s48.trans s9⟩
      rintro σ H5 ⟨w2, w6, rfl, s5⟩
      refine ⟨(by show 2 ≤ sizeLine; decide), fun p1 h1 => ⟨(by show 2 ≤ sizeLine; decide), fun p2 h2 => ⟨(by show 2 ≤ sizeLine; decide), fun p3 h3 => ⟨(by show 2 ≤ sizeLine; decide), fun p4 h4 => ⟨(by show 2 ≤ sizeLine; decide), fun p5 h5 =>
        ⟨(by show 2 ≤ sizeLine; decide), fun p6 h6 => ⟨(by show 6 ≤ sizeLine; decide), fun p h7 => ?_⟩⟩⟩⟩⟩⟩⟩
      have k1 := same_upd (o := .tup [.int 8, .str ""]) h1
      have k2 := same_upd (o := .tup [.int 11, .str "turn"]) h2
      have k3 := same_upd (o := .tup [.int 14, .str ""]) h3
      have k4' := same_upd (o := .tup [.int 15, .str "unknown"]) h4
      have k5 := same_upd (o := .tup [.int 4, .str "turn"]) h5
      have k6 := same_upd (o := .tup [.int 7, .str "turn"]) h6
      have k7 := same_upd (o := .tup [.ref p1, .ref p2, .ref p3, .ref p4, .ref p5, .ref p6]) h7
      have t1 := k7 _ _ (k6 _ _ (k5 _ _ (k4' _ _ (k3 _ _ (k2 _ _ (upd_same (H := H5) (a := p1) (o := .tup [.int 8, .str ""])))))))
      have t2 := k7 _ _ (k6 _ _ (k5 _ _ (k4' _ _ (k3 _ _ (upd_same (a := p2) (o := .tup [.int 11, .str "turn"]))))))
      have t3 := k7 _ _ (k6 _ _ (k5 _ _ (k4' _ _ (upd_same (a := p3) (o := .tup [.int 14, .str ""])))))
      have t4 := k7 _ _ (k6 _ _ (k5 _ _ (upd_same (a := p4) (o := .tup [.int 15, .str "unknown"]))))
      have t5 := k7 _ _ (k6 _ _ (upd_same (a := p5) (o := .tup [.int 4, .str "turn"])))
      have t6 := k7 _ _ (upd_same (a := p6) (o := .tup [.int 7, .str "turn"]))
      have k17 := (((((k1.trans k2).trans k3).trans k4').trans k5).trans k6).trans k7
      refine ⟨p, rfl, ⟨_, SqT.of upd_same⟩, for_tup (xs := [.ref p1, .ref p2, .ref p3, .ref p4, .ref p5, .ref p6]) (fun q σ H' => ∃ v2 v7 : Option V, σ = [some (.ref a), some (.ref s), v2, some (.int (0 + (t : Int))), some v, some (.str x), w6, v7] ∧ Same (upd (upd (upd (upd (upd (upd (upd H5 p1 (.tup [.int 8, .str ""])) p2 (.tup [.int 11, .str "turn"])) p3 (.tup [.int 14, .str ""])) p4 (.tup [.int 15, .str "unknown"])) p5 (.tup [.int 4, .str "turn"])) p6 (.tup [.int 7, .str "turn"])) p (.tup [.ref p1, .ref p2, .ref p3, .ref p4, .ref p5, .ref p6])) H')
        ⟨_, _, rfl, Same.refl _⟩ (fun q σ H' _ ⟨_, _, _, sq⟩ => sameT sq (SqT.of upd_same)) ?_ ?_⟩
      · rintro q y σ H9 hq ⟨w2, w7, rfl, s9⟩
        obtain ⟨i, pp, rfl, hi, hp⟩ : ∃ (i : Nat) (pp : Addr), y = V.ref pp ∧ (i = 8 ∨ i = 11 ∨ i = 14 ∨ i = 15 ∨ i = 4 ∨ i = 7) ∧ H9 pp = some (.tup [.int i, .str (wideOf i)]) := by
          match q, hq with
          | 0, hq => exact ⟨8, p1, (Option.some.inj hq).symm, by simp, s9 _ _ t1⟩
          | 1, hq => exact ⟨11, p2, (Option.some.inj hq).symm, by simp, s9 _ _ t2⟩
          | 2, hq => exact ⟨14, p3, (Option.some.inj hq).symm, by simp, s9 _ _ t3⟩
          | 3, hq => exact ⟨15, p4, (Option.some.inj hq).symm, by simp, s9 _ _ t4⟩
          | 4, hq => exact ⟨4, p5, (Option.some.inj hq).symm, by simp, s9 _ _ t5⟩
          | 5, hq => exact ⟨7, p6, (Option.some.inj hq).symm, by simp, s9 _ _ t6⟩
        refine ⟨pp, _, rfl, SqT.of hp, rfl, _, _, rfl, _, _, rfl, rfl, ?_⟩
        refine ⟨_, rfl, _, rfl, _, rfl, i, v, H3, x, bs, rfl, hi, keep ((s5.trans k17).trans s9), hx1, fun Ha sa => ⟨true, rfl, if_no rfl ?_⟩⟩
        exact ⟨_, _, rfl, s9.trans sa⟩
      · rintro σ H9 ⟨w2, w7, rfl, s9⟩
        refine ⟨_, rfl, H3, v, x, 7, bs, rfl, keep ((s5.trans k17).trans s9), by decide, hx1, _, rfl, rfl, _, rfl, if_no same_x ?_⟩
        refine ⟨_, _, _, _, _, _, _, b4, rfl, src4.but ((s5.trans k17).trans s9), by omega, ?_⟩
        rw [Int.natCast_succ]
        omega
    · rintro σ H3 ⟨v2, v3, v4, v5, v6, v7, ms3, b3, rfl, src3, b0, b1⟩
      exact k H3
end
end Vk
namespace Vk
open PySem L2
/-! the written part, read by names -/
def csK (K : PySem.W.Frag) (i : Nat) : Addr := He.ga K (nm i)
def fiK (K : PySem.W.Frag) (i : Nat) : Addr := He.ma K (csK K i) "__init__"
def aboveB (tl : List Value) : List Value → Bool
  | .ref _ :: r => aboveB tl r
  | l => decide (l = tl)
theorem aboveB_ok {tl : List Value} : ∀ {l : List Value}, aboveB tl l = true → Above tl l
  | [], h => of_decide_eq_true (p := [] = tl) h
  | .ref c :: r, h => aboveB_ok (l := r) h
  | .none :: r, h => of_decide_eq_true (p := (Value.none :: r) = tl) h
  | .ellipsis :: r, h => of_decide_eq_true (p := (Value.ellipsis :: r) = tl) h
  | .notImplemented :: r, h => of_decide_eq_true (p := (Value.notImplemented :: r) = tl) h
  | .bool b :: r, h => of_decide_eq_true (p := (Value.bool b :: r) = tl) h
  | .int i t :: r, h => of_decide_eq_true (p := (Value.int i t :: r) = tl) h
  | .float i t :: r, h => of_decide_eq_true (p := (Value.float i t :: r) = tl) h
  | .str i t :: r, h => of_decide_eq_true (p := (Value.str i t :: r) = tl) h
  | .bytes i t :: r, h => of_decide_eq_true (p := (Value.bytes i t :: r) = tl) h
  | .type i :: r, h => of_decide_eq_true (p := (Value.type i :: r) = tl) h
  | .builtin i :: r, h => of_decide_eq_true (p := (Value.builtin i :: r) = tl) h
def clsB (K : PySem.W.Frag) (C : Addr) (nid : String) (tl : List Value) : Bool := match K.lookup C with
  | some ⟨ct, _, .cls cd, ⟨[_, _, _, _, some k4, _]⟩⟩ => decide (ct = .type "type") && (decide (k4 = .builtin nid) && (decide (cd.mro = .ref C :: cd.mro.tail) && (aboveB tl cd.mro.tail && (cd.hasDict && !cd.hasDel))))
  | _ => false
theorem both {a b : Bool} (h : (a && b) = true) : a = true ∧ b = true := Bool.and_eq_true_iff.mp h
theorem clsB_ok {K : PySem.W.Frag} {C : Addr} {nid : String} {tl : List Value} (h : clsB K C nid tl = true) :
    ∃ nm q N bs bm sn sub ab col dd k0 k1 k2 k3 k5, K.lookup C = some (excClassObj nm q C N bs bm true sn sub ab col dd k0 k1 k2 k3 k5 nid) ∧ Above tl bm := by
  unfold clsB at h
  split at h
  · rename_i ct dd cd k0 k1 k2 k3 k4 k5 e
    obtain ⟨h1, h⟩ := both h
    obtain ⟨h2, h⟩ := both h
    obtain ⟨h3, h⟩ := both h
    obtain ⟨h4, h⟩ := both h
    obtain ⟨h5, h6⟩ := both h
    have e1 := of_decide_eq_true h1
    have e2 := of_decide_eq_true h2
    have e3 := of_decide_eq_true h3
    obtain ⟨n, bs, mro, ns, q, hD, sn, sub, ab, col, hdel⟩ := cd
    have e5 : hD = true := h5
    have e6 : hdel = false := by
      cases hdel with
      | false => rfl
      | true => cases h6
    have e3' : mro = .ref C :: mro.tail := e3
    cases mro with
    | nil => cases e3'
    | cons y r =>
      injection e3' with ey
      refine ⟨n, q, ns, bs, r, sn, sub, ab, col, dd, k0, k1, k2, k3, k5, ?_, aboveB_ok h4⟩
      rw [e, e1, e2, e5, e6, ey]
  · cases h
def xcB (K : PySem.W.Frag) (C : Addr) (nid : String) (tl : List Value) : Bool := clsB K C nid tl && (decide (PySem.W.findIn K (.ref C) "__setattr__" = some (some (.builtin "object.__setattr__"))) && (decide (PySem.W.subIn K (.ref C) (.type "BaseException") = some true) &&
  (decide (PySem.W.typeIn K (.ref C) = some (.type "type")) && (PySem.W.keepIn K (.ref C) && (decide (PySem.W.findIn K (.ref C) "__getattribute__" = some (some (.builtin "BaseException.__getattribute__"))) && (decide (PySem.W.findIn K (.ref C) "__getattr__" = some none) &&
  (PySem.W.hasDictIn K C && (decide (PySem.W.findIn K (.ref C) "__class__" = some (some (.builtin "object.__class__"))) && decide (PySem.W.mroIn K C (.type "object") = some true)))))))))
theorem xcB_ok {K : PySem.W.Frag} {C : Addr} {nid : String} {tl : List Value} (h : xcB K C nid tl = true) : XC K C nid tl := by
  obtain ⟨h1, h⟩ := both h
  obtain ⟨h2, h⟩ := both h
  obtain ⟨h3, h⟩ := both h
  obtain ⟨h4, h⟩ := both h
  obtain ⟨h5, h⟩ := both h
  obtain ⟨h6, h⟩ := both h
  obtain ⟨h7, h⟩ := both h
  obtain ⟨h8, h⟩ := both h
  obtain ⟨h9, h10⟩ := both h
  exact ⟨clsB_ok h1, of_decide_eq_true h2, of_decide_eq_true h3, of_decide_eq_true h4, h5, of_decide_eq_true h6, of_decide_eq_true h7, h8, of_decide_eq_true h9, of_decide_eq_true h10⟩
theorem upto {n : Nat} {p : Nat → Bool} (h : (List.range n).all p = true) : ∀ i, i < n → p i = true := fun i hi => List.all_eq_true.mp h i (List.mem_range.mpr hi)
theorem upto8 {n : Nat} {p : Nat → Bool} (h : (List.range n).all (fun i => decide (i < 8) || p i) = true) : ∀ i, 8 ≤ i → i < n → p i = true := fun i h8 hi => by
  have z := upto h i hi
  rw [decide_eq_false (by omega), Bool.false_or] at z
  exact z
def baB (K : PySem.W.Frag) (T : Addr) (initId : String) : Bool := decide (PySem.W.specialIn K (.ref T) "__getattribute__" = some (some (.builtin "type.__getattribute__"))) && (decide (PySem.W.typeIn K (.ref T) = some (.type "type")) && (PySem.W.readsIn K T (.type "type") &&
  (match PySem.W.findCls K (.ref T) (.type "type") "__init__" with
    | some (.val v) => decide (v = .builtin initId)
    | _ => false)))
theorem baB_ok {K : PySem.W.Frag} {T : Addr} {initId : String} {mg : Str → Option Value} {x : Str} (g : mg x = some (.ref T)) (h : baB K T initId = true) : XBase K mg x T initId := by
  obtain ⟨h1, h⟩ := both h
  obtain ⟨h2, h⟩ := both h
  obtain ⟨h3, h4⟩ := both h
  refine ⟨g, of_decide_eq_true h1, of_decide_eq_true h2, h3, ?_⟩
  split at h4
  · rename_i v e
    rw [e, of_decide_eq_true h4]
  · cases h4
def chk (K : PySem.W.Frag) : Bool :=
  ((((List.range 17).all fun i => xcB K (csK K i) (nidOf i) (tlOf i))) &&
  ((((List.range 17).all fun i => decide (i < 8) || decide (PySem.W.findIn K (.ref (csK K i)) (fld i) = some none))) &&
  ((((List.range 17).all fun i => decide (i < 8) || decide (PySem.W.findIn K (.ref (csK K i)) "__init__" = some (some (.ref (fiK K i)))))) &&
  ((((List.range 17).all fun i => decide (i < 8) || decide (PySem.W.typeIn K (.ref (fiK K i)) = some (.type "function")))) &&
  ((((List.range 8).all fun i => PySem.W.excIn K (csK K i) veT "ValueError.__new__")) &&
  ((((List.range 17).all fun i => (List.range 17).all fun j => decide (PySem.W.kitOne K (.ref (csK K i)) (.ref (csK K j)) = some (decide (j = i))))) &&
  ((((List.range 17).all fun i => decide (PySem.W.kitOne K (.ref (csK K i)) (.ref (He.ga K "TurnError")) = some (decide (i < 13))))) &&
  ((((List.range 17).all fun i => decide (PySem.W.kitOne K (.ref (csK K i)) (.ref (He.ga K "Unknown")) = some (!decide (i < 13))))) &&
  ((((List.range 17).all fun i => decide (PySem.W.kitOne K (.ref (csK K i)) (.type "ValueError") = some (decide (i < 13))))) &&
  ((((List.range 17).all fun i => decide (PySem.W.kitOne K (.ref (csK K i)) (.type "KeyError") = some (!decide (i < 13))))) &&
  ((decide (PySem.W.specialIn K (.builtin "object.__class__") "__get__" = some (some (.builtin "getset_descriptor.__get__")))) &&
  ((decide (PySem.W.takesIn K (.builtin "object.__class__") = some true)) &&
  ((baB K (He.ga K "TurnError") "ValueError.__init__") &&
  ((baB K (He.ga K "Unknown") "KeyError.__init__") &&
  ((((List.range 17).all fun i => decide (PySem.W.exmOne K (.ref (csK K i)) (.ref (csK K 8)) = some (decide (i = 8))))) &&
  ((((List.range 17).all fun i => decide (PySem.W.exmOne K (.ref (csK K i)) (.ref (csK K 14)) = some (decide (i = 14))))) &&
  ((((List.range 17).all fun i => decide (PySem.W.exmOne K (.ref (csK K i)) (.ref (He.ga K "TurnError")) = some (decide (i < 13))))) &&
  ((List.range 17).all fun i => decide (PySem.W.exmOne K (.ref (csK K i)) (.ref (He.ga K "Unknown")) = some (!decide (i < 13)))))))))))))))))))))
def faL : List He.Fa := [.glo "InvalidTable", .glo "InvalidStore", .glo "InvalidQuestion", .glo "InvalidForm", .glo "InvalidText", .glo "InvalidCommand", .glo "InvalidShape", .glo "Full", .glo "InvalidChange", .glo "NameTaken", .glo "Broken", .glo "Barred", .glo "NoOrder", .glo "UnknownTable", .glo "UnknownRow", .glo "UnknownNumber", .glo "UnknownReplica", .glo "TurnError", .glo "Unknown", .glo "_law_source", .glo "_law_draw", .glo "_law_pick", .glo "_law_plain", .glo "_law_value", .glo "_law_bare", .glo "_law_made", .glo "_law_made_by_name", .glo "_law_held", .glo "_law_marks", .glo "_law_due", .glo "_law_raised", .glo "_law_raise", .glo "law", .free "isinstance", .free "ValueError", .free "KeyError", .free "range", .free "repr", .free "list", .free "len", .free "tuple"]
def fnL : List He.FnD := [⟨("_law_source", none), "_law_source", "_law_source", defArgs sSource, defBody sSource, defScope sSource⟩, ⟨("_law_draw", none), "_law_draw", "_law_draw", defArgs sDraw, defBody sDraw, defScope sDraw⟩, ⟨("_law_pick", none), "_law_pick", "_law_pick", defArgs sPick, defBody sPick, defScope sPick⟩, ⟨("_law_plain", none), "_law_plain", "_law_plain", defArgs sPlain, defBody sPlain, defScope sPlain⟩, ⟨("_law_value", none), "_law_value", "_law_value", defArgs sValue, defBody sValue, defScope sValue⟩, ⟨("_law_bare", none), "_law_bare", "_law_bare", defArgs sBare, defBody sBare, defScope sBare⟩, ⟨("_law_made", none), "_law_made", "_law_made", defArgs sMade, defBody sMade, defScope sMade⟩, ⟨("_law_made_by_name", none), "_law_made_by_name", "_law_made_by_name", defArgs sMadeN, defBody sMadeN, defScope sMadeN⟩, ⟨("_law_held", none), "_law_held", "_law_held", defArgs sHeld, defBody sHeld, defScope sHeld⟩, ⟨("_law_marks", none), "_law_marks", "_law_marks", defArgs sMarks, defBody sMarks, defScope sMarks⟩, ⟨("_law_due", none), "_law_due", "_law_due", defArgs sDue, defBody sDue, defScope sDue⟩, ⟨("_law_raised", none), "_law_raised", "_law_raised", defArgs sRaised, defBody sRaised, defScope sRaised⟩, ⟨("_law_raise", none), "_law_raise", "_law_raise", defArgs sRaise, defBody sRaise, defScope sRaise⟩, ⟨("law", none), "law", "law", defArgs sLaw, defBody sLaw, defScope sLaw⟩, ⟨("InvalidChange", some "__init__"), "__init__", "InvalidChange.__init__", defArgs sI8, defBody sI8, defScope sI8⟩, ⟨("NameTaken", some "__init__"), "__init__", "NameTaken.__init__", defArgs sI9, defBody sI9, defScope sI9⟩, ⟨("Broken", some "__init__"), "__init__", "Broken.__init__", defArgs sI10, defBody sI10, defScope sI10⟩, ⟨("Barred", some "__init__"), "__init__", "Barred.__init__", defArgs sI11, defBody sI11, defScope sI11⟩, ⟨("NoOrder", some "__init__"), "__init__", "NoOrder.__init__", defArgs sI12, defBody sI12, defScope sI12⟩, ⟨("UnknownTable", some "__init__"), "__init__", "UnknownTable.__init__", defArgs sI13, defBody sI13, defScope sI13⟩, ⟨("UnknownRow", some "__init__"), "__init__", "UnknownRow.__init__", defArgs sI14, defBody sI14, defScope sI14⟩, ⟨("UnknownNumber", some "__init__"), "__init__", "UnknownNumber.__init__", defArgs sI15, defBody sI15, defScope sI15⟩, ⟨("UnknownReplica", some "__init__"), "__init__", "UnknownReplica.__init__", defArgs sI16, defBody sI16, defScope sI16⟩]
section
variable {K : PySem.W.Frag} {h : Heap} {mg : Str → Option Value} {fa : List He.Fa} {fn : List He.FnD}
theorem fun_of (c : He.SaysE fa fn K) (i : Nat) {p : Str × Option Str} {x q : Str} {st : Stmt} (e : fn[i]? = some ⟨p, x, q, defArgs st, defBody st, defScope st⟩) : ∃ fd, Fun K x q st (He.fAd K p) fd := by
  obtain ⟨oc, od, osl, kV, doc, pm, an, cdv, ct, l, cc⟩ := c.def_ i e
  refine ⟨_, fun_mk l cc ?_⟩
  show PySem.W.keepIn K (.ref (He.fAd K p)) = true
  unfold PySem.W.keepIn
  dsimp only at l
  simp only [l]
theorem Fun.kwd {x qual n : Str} {st : Stmt} {f : Addr} {fd : FuncData} {ps : List Str} (F : Fun K x qual st f fd)
    (e : ∀ (kV doc pm : Value) (an : Option Addr) (cdv ct a u : Value), bindArgs (PySem.W.fnOf x qual (defArgs st) (defBody st) (defScope st) .none kV doc pm an cdv ct) ⟨[a], [(n, u)]⟩ = pure (ps.zip [a, u])) :
    ∀ (s : Shared) (a u : Value), K.In s.heap → BindsTo s fd ⟨[a], [(n, u)]⟩ (ps.zip [a, u]) := fun s a u _ => by
  obtain ⟨oc, od, kV, doc, pm, an, cdv, ct, osl, rfl, lk, hcd⟩ := F.ex
  exact .of_eq (e kV doc pm an cdv ct a u)
theorem txtX (X : K.In h) (G : h.Ns mainGlobals mg) (c : He.SaysE faL fnL K) (z : chk K = true) : TxtX K mg (csK K) (fiK K) (He.ga K "TurnError") (He.ga K "Unknown") ∧ TxtM K (csK K) (He.ga K "TurnError") (He.ga K "Unknown") := by
  obtain ⟨z1, z⟩ := both z
  obtain ⟨z2, z⟩ := both z
  obtain ⟨z3, z⟩ := both z
  obtain ⟨z4, z⟩ := both z
  obtain ⟨z5, z⟩ := both z
  obtain ⟨z6, z⟩ := both z
  obtain ⟨z7, z⟩ := both z
  obtain ⟨z8, z⟩ := both z
  obtain ⟨z9, z⟩ := both z
  obtain ⟨z10, z⟩ := both z
  obtain ⟨z11, z⟩ := both z
  obtain ⟨z12, z⟩ := both z
  obtain ⟨z13, z⟩ := both z
  obtain ⟨z14, z⟩ := both z
  obtain ⟨z15, z⟩ := both z
  obtain ⟨z16, z⟩ := both z
  obtain ⟨z17, z⟩ := both z
  have g : ∀ i, i < 17 → mg (nm i) = some (.ref (csK K i)) := fun i hi => by
    match i, hi with
    | 0, _ => exact He.glo_ok X G (c.fact 0 (f := .glo "InvalidTable") rfl)
    | 1, _ => exact He.glo_ok X G (c.fact 1 (f := .glo "InvalidStore") rfl)
    | 2, _ => exact He.glo_ok X G (c.fact 2 (f := .glo "InvalidQuestion") rfl)
    | 3, _ => exact He.glo_ok X G (c.fact 3 (f := .glo "InvalidForm") rfl)
    | 4, _ => exact He.glo_ok X G (c.fact 4 (f := .glo "InvalidText") rfl)
    | 5, _ => exact He.glo_ok X G (c.fact 5 (f := .glo "InvalidCommand") rfl)
    | 6, _ => exact He.glo_ok X G (c.fact 6 (f := .glo "InvalidShape") rfl)
    | 7, _ => exact He.glo_ok X G (c.fact 7 (f := .glo "Full") rfl)
    | 8, _ => exact He.glo_ok X G (c.fact 8 (f := .glo "InvalidChange") rfl)
    | 9, _ => exact He.glo_ok X G (c.fact 9 (f := .glo "NameTaken") rfl)
    | 10, _ => exact He.glo_ok X G (c.fact 10 (f := .glo "Broken") rfl)
    | 11, _ => exact He.glo_ok X G (c.fact 11 (f := .glo "Barred") rfl)
    | 12, _ => exact He.glo_ok X G (c.fact 12 (f := .glo "NoOrder") rfl)
    | 13, _ => exact He.glo_ok X G (c.fact 13 (f := .glo "UnknownTable") rfl)
    | 14, _ => exact He.glo_ok X G (c.fact 14 (f := .glo "UnknownRow") rfl)
    | 15, _ => exact He.glo_ok X G (c.fact 15 (f := .glo "UnknownNumber") rfl)
    | 16, _ => exact He.glo_ok X G (c.fact 16 (f := .glo "UnknownReplica") rfl)
    | n + 17, hi => exact absurd hi (by omega)
  refine ⟨⟨g, fun i hi => xcB_ok (upto z1 i hi), fun i h8 hi => of_decide_eq_true (upto8 z2 i h8 hi), fun i h8 hi => of_decide_eq_true (upto8 z3 i h8 hi), fun i h8 hi => of_decide_eq_true (upto8 z4 i h8 hi), fun i hi => upto z5 i hi,
    fun i j hi hj => of_decide_eq_true (upto (upto z6 i hi) j hj), fun i hi => of_decide_eq_true (upto z7 i hi), fun i hi => of_decide_eq_true (upto z8 i hi), fun i hi => of_decide_eq_true (upto z9 i hi), fun i hi => of_decide_eq_true (upto z10 i hi),
    ⟨of_decide_eq_true z11, of_decide_eq_true z12⟩, baB_ok (He.glo_ok X G (c.fact 17 (f := .glo "TurnError") rfl)) z13, baB_ok (He.glo_ok X G (c.fact 18 (f := .glo "Unknown") rfl)) z14,
    He.free_ok X G (c.fact 33 (f := .free "isinstance") rfl), He.free_ok X G (c.fact 34 (f := .free "ValueError") rfl), He.free_ok X G (c.fact 35 (f := .free "KeyError") rfl), He.free_ok X G (c.fact 36 (f := .free "range") rfl), He.free_ok X G (c.fact 37 (f := .free "repr") rfl)⟩,
    ⟨fun i hi => of_decide_eq_true (upto z15 i hi), fun i hi => of_decide_eq_true (upto z16 i hi), fun i hi => of_decide_eq_true (upto z17 i hi), fun i hi => of_decide_eq_true (upto z i hi)⟩⟩
end
section
variable {P : Program} {w : World} {K : PySem.W.Frag} {h : Heap} {mg : Str → Option Value}
theorem all_of (X : K.In h) (G : h.Ns mainGlobals mg) (c : He.SaysE faL fnL K) (z : chk K = true) {f : Addr} (hf : mg "law" = some (.ref f)) :
    ∃ fd : FuncData, (∀ (s : Shared) (v : Value), BindsTo s fd ⟨[v], []⟩ [("_law_script", v)]) ∧ ∀ base : Heap, K.In base → base.Ns mainGlobals mg → FnG P w K mg base CX0 8 f fd ["_law_script"] (spLaw K) := by
  obtain ⟨T, M⟩ := txtX X G c z
  obtain ⟨fdS, FS⟩ := fun_of c 0 (p := ("_law_source", none)) (x := "_law_source") (q := "_law_source") (st := sSource) rfl
  have cS : Calls K mg "_law_source" (He.ga K "_law_source") := ⟨He.glo_ok X G (c.fact 19 (f := .glo "_law_source") rfl), FS.kp⟩
  obtain ⟨fdW, FW⟩ := fun_of c 1 (p := ("_law_draw", none)) (x := "_law_draw") (q := "_law_draw") (st := sDraw) rfl
  have cW : Calls K mg "_law_draw" (He.ga K "_law_draw") := ⟨He.glo_ok X G (c.fact 20 (f := .glo "_law_draw") rfl), FW.kp⟩
  obtain ⟨fdQ, FQ⟩ := fun_of c 2 (p := ("_law_pick", none)) (x := "_law_pick") (q := "_law_pick") (st := sPick) rfl
  have cQ : Calls K mg "_law_pick" (He.ga K "_law_pick") := ⟨He.glo_ok X G (c.fact 21 (f := .glo "_law_pick") rfl), FQ.kp⟩
  obtain ⟨fdL, FL⟩ := fun_of c 3 (p := ("_law_plain", none)) (x := "_law_plain") (q := "_law_plain") (st := sPlain) rfl
  have cL : Calls K mg "_law_plain" (He.ga K "_law_plain") := ⟨He.glo_ok X G (c.fact 22 (f := .glo "_law_plain") rfl), FL.kp⟩
  obtain ⟨fdV, FV⟩ := fun_of c 4 (p := ("_law_value", none)) (x := "_law_value") (q := "_law_value") (st := sValue) rfl
  have cV : Calls K mg "_law_value" (He.ga K "_law_value") := ⟨He.glo_ok X G (c.fact 23 (f := .glo "_law_value") rfl), FV.kp⟩
  obtain ⟨fdB, FB⟩ := fun_of c 5 (p := ("_law_bare", none)) (x := "_law_bare") (q := "_law_bare") (st := sBare) rfl
  have cB : Calls K mg "_law_bare" (He.ga K "_law_bare") := ⟨He.glo_ok X G (c.fact 24 (f := .glo "_law_bare") rfl), FB.kp⟩
  obtain ⟨fdA, FA⟩ := fun_of c 6 (p := ("_law_made", none)) (x := "_law_made") (q := "_law_made") (st := sMade) rfl
  have cA : Calls K mg "_law_made" (He.ga K "_law_made") := ⟨He.glo_ok X G (c.fact 25 (f := .glo "_law_made") rfl), FA.kp⟩
  obtain ⟨fdN, FN⟩ := fun_of c 7 (p := ("_law_made_by_name", none)) (x := "_law_made_by_name") (q := "_law_made_by_name") (st := sMadeN) rfl
  have cN : Calls K mg "_law_made_by_name" (He.ga K "_law_made_by_name") := ⟨He.glo_ok X G (c.fact 26 (f := .glo "_law_made_by_name") rfl), FN.kp⟩
  obtain ⟨fdH, FH⟩ := fun_of c 8 (p := ("_law_held", none)) (x := "_law_held") (q := "_law_held") (st := sHeld) rfl
  have cH : Calls K mg "_law_held" (He.ga K "_law_held") := ⟨He.glo_ok X G (c.fact 27 (f := .glo "_law_held") rfl), FH.kp⟩
  obtain ⟨fdM, FM⟩ := fun_of c 9 (p := ("_law_marks", none)) (x := "_law_marks") (q := "_law_marks") (st := sMarks) rfl
  have cM : Calls K mg "_law_marks" (He.ga K "_law_marks") := ⟨He.glo_ok X G (c.fact 28 (f := .glo "_law_marks") rfl), FM.kp⟩
  obtain ⟨fdD, FD⟩ := fun_of c 10 (p := ("_law_due", none)) (x := "_law_due") (q := "_law_due") (st := sDue) rfl
  have cD : Calls K mg "_law_due" (He.ga K "_law_due") := ⟨He.glo_ok X G (c.fact 29 (f := .glo "_law_due") rfl), FD.kp⟩
  obtain ⟨fdX, FX⟩ := fun_of c 11 (p := ("_law_raised", none)) (x := "_law_raised") (q := "_law_raised") (st := sRaised) rfl
  have cX : Calls K mg "_law_raised" (He.ga K "_law_raised") := ⟨He.glo_ok X G (c.fact 30 (f := .glo "_law_raised") rfl), FX.kp⟩
  obtain ⟨fdR, FR⟩ := fun_of c 12 (p := ("_law_raise", none)) (x := "_law_raise") (q := "_law_raise") (st := sRaise) rfl
  have cR : Calls K mg "_law_raise" (He.ga K "_law_raise") := ⟨He.glo_ok X G (c.fact 31 (f := .glo "_law_raise") rfl), FR.kp⟩
  obtain ⟨fdZ, FZ⟩ := fun_of c 13 (p := ("law", none)) (x := "law") (q := "law") (st := sLaw) rfl
  have cZ : Calls K mg "law" (He.ga K "law") := ⟨He.glo_ok X G (c.fact 32 (f := .glo "law") rfl), FZ.kp⟩
  have bS : Binds K fdS ["_law_script"] [] := FS.binds fun _ _ _ _ _ _ us hl => match us, hl with | [_], _ => rfl
  have bW : Binds K fdW ["_law_source_here", "_law_many"] [] := FW.binds fun _ _ _ _ _ _ us hl => match us, hl with | [_, _], _ => rfl
  have bQ : Binds K fdQ ["_law_source_here", "_law_items"] [] := FQ.binds fun _ _ _ _ _ _ us hl => match us, hl with | [_, _], _ => rfl
  have bL : Binds K fdL ["_law_source_here"] [] := FL.binds fun _ _ _ _ _ _ us hl => match us, hl with | [_], _ => rfl
  have bV : Binds K fdV ["_law_source_here", "_law_deep"] [] := FV.binds fun _ _ _ _ _ _ us hl => match us, hl with | [_, _], _ => rfl
  have bB : Binds K fdB ["_law_which"] [] := FB.binds fun _ _ _ _ _ _ us hl => match us, hl with | [_], _ => rfl
  have bA : Binds K fdA ["_law_which", "_law_it"] [] := FA.binds fun _ _ _ _ _ _ us hl => match us, hl with | [_, _], _ => rfl
  have bN : Binds K fdN ["_law_which", "_law_it"] [] := FN.binds fun _ _ _ _ _ _ us hl => match us, hl with | [_, _], _ => rfl
  have bH : Binds K fdH ["_law_which", "_law_error"] [] := FH.binds fun _ _ _ _ _ _ us hl => match us, hl with | [_, _], _ => rfl
  have bM : Binds K fdM ["_law_error"] [] := FM.binds fun _ _ _ _ _ _ us hl => match us, hl with | [_], _ => rfl
  have bD : Binds K fdD ["_law_which"] [] := FD.binds fun _ _ _ _ _ _ us hl => match us, hl with | [_], _ => rfl
  have bX : Binds K fdX ["_law_which", "_law_it", "_law_wide"] [] := FX.binds fun _ _ _ _ _ _ us hl => match us, hl with | [_, _, _], _ => rfl
  have bR : Binds K fdR ["_law_which", "_law_it"] [] := FR.binds fun _ _ _ _ _ _ us hl => match us, hl with | [_, _], _ => rfl
  have bZ : Binds K fdZ ["_law_script"] [] := FZ.binds fun _ _ _ _ _ _ us hl => match us, hl with | [_], _ => rfl
  obtain ⟨fd8, F8⟩ := fun_of c 14 (p := ("InvalidChange", some "__init__")) (x := "__init__") (q := "InvalidChange.__init__") (st := sI8) rfl
  have b8 : Binds K fd8 ["self", "change"] [] := F8.binds fun _ _ _ _ _ _ us hl => match us, hl with | [_, _], _ => rfl
  have w8 := Fun.kwd (n := "change") (ps := ["self", "change"]) F8 fun _ _ _ _ _ _ _ _ => rfl
  obtain ⟨fd9, F9⟩ := fun_of c 15 (p := ("NameTaken", some "__init__")) (x := "__init__") (q := "NameTaken.__init__") (st := sI9) rfl
  have b9 : Binds K fd9 ["self", "name"] [] := F9.binds fun _ _ _ _ _ _ us hl => match us, hl with | [_, _], _ => rfl
  have w9 := Fun.kwd (n := "name") (ps := ["self", "name"]) F9 fun _ _ _ _ _ _ _ _ => rfl
  obtain ⟨fd10, F10⟩ := fun_of c 16 (p := ("Broken", some "__init__")) (x := "__init__") (q := "Broken.__init__") (st := sI10) rfl
  have b10 : Binds K fd10 ["self", "number"] [] := F10.binds fun _ _ _ _ _ _ us hl => match us, hl with | [_, _], _ => rfl
  have w10 := Fun.kwd (n := "number") (ps := ["self", "number"]) F10 fun _ _ _ _ _ _ _ _ => rfl
  obtain ⟨fd11, F11⟩ := fun_of c 17 (p := ("Barred", some "__init__")) (x := "__init__") (q := "Barred.__init__") (st := sI11) rfl
  have b11 : Binds K fd11 ["self", "numbers"] [] := F11.binds fun _ _ _ _ _ _ us hl => match us, hl with | [_, _], _ => rfl
  have w11 := Fun.kwd (n := "numbers") (ps := ["self", "numbers"]) F11 fun _ _ _ _ _ _ _ _ => rfl
  obtain ⟨fd12, F12⟩ := fun_of c 18 (p := ("NoOrder", some "__init__")) (x := "__init__") (q := "NoOrder.__init__") (st := sI12) rfl
  have b12 : Binds K fd12 ["self", "tree"] [] := F12.binds fun _ _ _ _ _ _ us hl => match us, hl with | [_, _], _ => rfl
  have w12 := Fun.kwd (n := "tree") (ps := ["self", "tree"]) F12 fun _ _ _ _ _ _ _ _ => rfl
  obtain ⟨fd13, F13⟩ := fun_of c 19 (p := ("UnknownTable", some "__init__")) (x := "__init__") (q := "UnknownTable.__init__") (st := sI13) rfl
  have b13 : Binds K fd13 ["self", "name"] [] := F13.binds fun _ _ _ _ _ _ us hl => match us, hl with | [_, _], _ => rfl
  have w13 := Fun.kwd (n := "name") (ps := ["self", "name"]) F13 fun _ _ _ _ _ _ _ _ => rfl
  obtain ⟨fd14, F14⟩ := fun_of c 20 (p := ("UnknownRow", some "__init__")) (x := "__init__") (q := "UnknownRow.__init__") (st := sI14) rfl
  have b14 : Binds K fd14 ["self", "row"] [] := F14.binds fun _ _ _ _ _ _ us hl => match us, hl with | [_, _], _ => rfl
  have w14 := Fun.kwd (n := "row") (ps := ["self", "row"]) F14 fun _ _ _ _ _ _ _ _ => rfl
  obtain ⟨fd15, F15⟩ := fun_of c 21 (p := ("UnknownNumber", some "__init__")) (x := "__init__") (q := "UnknownNumber.__init__") (st := sI15) rfl
  have b15 : Binds K fd15 ["self", "number"] [] := F15.binds fun _ _ _ _ _ _ us hl => match us, hl with | [_, _], _ => rfl
  have w15 := Fun.kwd (n := "number") (ps := ["self", "number"]) F15 fun _ _ _ _ _ _ _ _ => rfl
  obtain ⟨fd16, F16⟩ := fun_of c 22 (p := ("UnknownReplica", some "__init__")) (x := "__init__") (q := "UnknownReplica.__init__") (st := sI16) rfl
  have b16 : Binds K fd16 ["self", "name"] [] := F16.binds fun _ _ _ _ _ _ us hl => match us, hl with | [_, _], _ => rfl
  have w16 := Fun.kwd (n := "name") (ps := ["self", "name"]) F16 fun _ _ _ _ _ _ _ _ => rfl
  have e : f = He.ga K "law" := by
    have q := hf.symm.trans cZ.g
    exact Value.ref.inj (Option.some.inj q)
  subst e
  refine ⟨fdZ, fun s v => ?_, fun base _ _ => ?_⟩
  · obtain ⟨oc, od, kV, doc, pm, an, cdv, ct, osl, rfl, lk, hcd⟩ := FZ.ex
    exact .of_eq rfl
  have TB : TxtB K mg (He.ga K "_law_draw") (He.ga K "_law_pick") (He.ga K "_law_plain") (He.ga K "_law_value") :=
    { list := He.free_ok X G (c.fact 38 (f := .free "list") rfl), len := He.free_ok X G (c.fact 39 (f := .free "len") rfl), range := T.range, tuple := He.free_ok X G (c.fact 40 (f := .free "tuple") rfl), gD := cW.g, kD := cW.k, gP := cQ.g, kP := cQ.k, gL := cL.g, kL := cL.k, gV := cV.g, kV := cV.k }
  have GL := ok_plain (P := P) (w := w) (base := base) FL TB FW bW FQ bQ
  let fds : Nat → FuncData := fun i => match i with | 8 => fd8 | 9 => fd9 | 10 => fd10 | 11 => fd11 | 12 => fd12 | 13 => fd13 | 14 => fd14 | 15 => fd15 | _ => fd16
  have IN : Inits P w K mg base (csK K) (fiK K) fds := fun i h8 h17 => by
    obtain rfl | rfl | rfl | rfl | rfl | rfl | rfl | rfl | rfl : i = 8 ∨ i = 9 ∨ i = 10 ∨ i = 11 ∨ i = 12 ∨ i = 13 ∨ i = 14 ∨ i = 15 ∨ i = 16 := by omega
    · exact ⟨ok_init8 F8 (T.x 8 (by decide)) T.bT (T.no 8 (by decide) (by decide)), b8, w8⟩
    · exact ⟨ok_init9 F9 (T.x 9 (by decide)) T.bT (T.no 9 (by decide) (by decide)), b9, w9⟩
    · exact ⟨ok_init10 F10 (T.x 10 (by decide)) T.bT (T.no 10 (by decide) (by decide)), b10, w10⟩
    · exact ⟨ok_init11 F11 (T.x 11 (by decide)) T.bT (T.no 11 (by decide) (by decide)), b11, w11⟩
    · exact ⟨ok_init12 F12 (T.x 12 (by decide)) T.bT (T.no 12 (by decide) (by decide)), b12, w12⟩
    · exact ⟨ok_init13 F13 (T.x 13 (by decide)) T.bU (T.no 13 (by decide) (by decide)), b13, w13⟩
    · exact ⟨ok_init14 F14 (T.x 14 (by decide)) T.bU (T.no 14 (by decide) (by decide)), b14, w14⟩
    · exact ⟨ok_init15 F15 (T.x 15 (by decide)) T.bU (T.no 15 (by decide) (by decide)), b15, w15⟩
    · exact ⟨ok_init16 F16 (T.x 16 (by decide)) T.bU (T.no 16 (by decide) (by decide)), b16, w16⟩
  have GR := ok_raise (P := P) (w := w) (base := base) FR T IN
  exact ok_law FZ T (ok_source FS TB.toTxtA) cS bS (ok_value TB FV bV FW bW GL bL 3 (Nat.le_refl _)) cV bV (ok_bare FB T) cB bB (ok_made FA T IN) cA bA (ok_madeN FN T IN) cN bN (ok_held FH T) cH bH (ok_marks FM T) cM bM (ok_due FD T) cD bD (ok_raised FX T M GR cR.g cR.k bR) cX bX
end
end Vk
open PySem PySem.W PyProof.Rows in
set_option maxRecDepth 100000 in
set_option maxHeartbeats 0 in
theorem PySem.Challenge.cw_whatturns_k01_errors_holds : PySem.Challenge.rw_whatturns_k01_errors.Holds := by
  w_on; o_law; k_head; (case hw => w_witness2)
  k_fill
  refine Vk.walkG (l := PySem.Challenge.rw_whatturns_k01_errors) (n := 63) (k := 8) (x := "_law_script") (sp := Vk.spLaw) rfl (by decide) rfl ⟨rfl, by decide, by decide⟩ (fun w h Y => PySem.W.kIn_of Y) ?F (fun K H a ns short _ hS => ⟨a, ns, rfl, hS, short, fun _ => rfl⟩)
  case F =>
    intro w mg fa h KX G hmg
    refine Vk.all_of KX G ?says ?chk hmg
    case says =>
      show He.obsE Vk.faL Vk.fnL _ = He.valE Vk.fnL
      kernel_rfl
    case chk => kernel_rfl
