import PyProof.Rows.All
import Wide.All
import OpenK.AllK
import Wide.FinOn
import HandS.ForMost
import HandS.Wide
import HandS.IsInst
import HandS.Codes
import HandS.Evl
import HandS.Walk
import HandS.Zip
import HandS.Star
import HandS.More
import HandS.Flow
import HandS.RevRange
import HandS.OwnEq
import HandS.NamedTupGet
import HandS.Small
import HandS.ExcOwn
import HandS.WordsExc
import HandS.TupAny
import HandS.TryMany
import HandS.Deep
import HandS.ExcIs
import HandS.Rev
import HandS.TupLe
import HandS.ExcInit
import HandS.ExcField
import HandS.FStr
import HandS.Text
import HandS.RaiseMore
import HandS.ExcValue
import KE.KExcIs
import PySem.Challenge.RW_sharedboard_k00_errors
set_option Elab.async false
set_option linter.all false
set_option maxRecDepth 100000
set_option maxHeartbeats 4000000
namespace My
open PySem PySem.Spec PyProof.Rows L2 Evl
open C8 (Cal pe_c)
def topS (i : Nat) : Stmt := PySem.Challenge.pw_sharedboard_k00_errors.main.body.getD i (.Pass ⟨0, 0, 0, 0⟩)
abbrev s_law_pool : Stmt := topS 35
theorem sc_law_pool : FnScope ["script", "seed", "cell"] ["script"] (defScope s_law_pool) := ⟨rfl, rfl, rfl, by decide +kernel, rfl, by decide +kernel, by decide +kernel⟩
abbrev s_law_draw : Stmt := topS 36
theorem sc_law_draw : FnScope ["pool", "many", "number", "cell", "digit"] ["pool", "many"] (defScope s_law_draw) := ⟨rfl, rfl, rfl, by decide +kernel, rfl, by decide +kernel, by decide +kernel⟩
/-! ### the pool of a law's draws -/
/-- all but the object at p is as it was -/
def Oth (p : Addr) (H H' : Hp) : Prop := ∀ a o, a ≠ p → H a = some o → H' a = some o
theorem Oth.refl (p : Addr) (H : Hp) : Oth p H H := fun _ _ _ h => h
theorem Oth.trans {p : Addr} {H H1 H2 : Hp} (a : Oth p H H1) (b : Oth p H1 H2) : Oth p H H2 := fun c o n h => b c o n (a c o n h)
theorem Oth.of {p : Addr} {H H1 : Hp} (a : Ex H H1) : Oth p H H1 := fun c o _ h => a c o h
theorem Oth.upd {p : Addr} {H : Hp} {o : HO} : Oth p H (upd H p o) := fun c u n h => by rw [upd_ne n]; exact h
structure PoolAt (H : Hp) (p q : Addr) (i b t s : Int) (cs : List Int) : Prop where
  hp : H p = some (.lst [.ref q, .int i, .int b, .int t, .int s])
  hq : H q = some (.lst (cs.map V.int))
  short : cs.length ≤ 63
  i0 : 0 ≤ i
  b0 : 0 ≤ b
def Pool (H : Hp) (p q : Addr) : Prop := ∃ i b t s cs, PoolAt H p q i b t s cs
theorem PoolAt.ne {H : Hp} {p q : Addr} {i b t s : Int} {cs : List Int} (x : PoolAt H p q i b t s cs) : q ≠ p := ne_of x.hq x.hp fun e => by
  have e1 := HO.lst.inj e
  cases cs with
  | nil => cases e1
  | cons c r => cases e1
theorem PoolAt.ex {H H' : Hp} {p q : Addr} {i b t s : Int} {cs : List Int} (x : PoolAt H p q i b t s cs) (e : Ex H H') : PoolAt H' p q i b t s cs :=
  ⟨e _ _ x.hp, e _ _ x.hq, x.short, x.i0, x.b0⟩
theorem Pool.ex {H H' : Hp} {p q : Addr} (x : Pool H p q) (e : Ex H H') : Pool H' p q := by
  obtain ⟨i, b, t, s, cs, x⟩ := x
  exact ⟨i, b, t, s, cs, x.ex e⟩
theorem Pool.ne {H : Hp} {p q : Addr} (x : Pool H p q) : q ≠ p := by
  obtain ⟨i, b, t, s, cs, x⟩ := x
  exact x.ne
/-- a list of ints is not the pool -/
theorem Pool.neI {H : Hp} {p q a : Addr} {ns : List Int} (x : Pool H p q) (h : H a = some (.lst (ns.map V.int))) : a ≠ p := by
  obtain ⟨i, b, t, s, cs, x⟩ := x
  refine ne_of h x.hp fun e => ?_
  have e1 := HO.lst.inj e
  cases ns with
  | nil => cases e1
  | cons c r => cases e1
/-- an object that is neither may change -/
theorem Pool.upd {H : Hp} {p q a : Addr} {o : HO} (x : Pool H p q) (h1 : a ≠ p) (h2 : a ≠ q) : Pool (upd H a o) p q := by
  obtain ⟨i, b, t, s, cs, x⟩ := x
  exact ⟨i, b, t, s, cs, by rw [upd_ne h1.symm]; exact x.hp, by rw [upd_ne h2.symm]; exact x.hq, x.short, x.i0, x.b0⟩
theorem Pool.isP {H : Hp} {p q : Addr} (x : Pool H p q) : ∃ o, H p = some o := by
  obtain ⟨i, b, t, s, cs, x⟩ := x
  exact ⟨_, x.hp⟩
theorem Pool.isQ {H : Hp} {p q : Addr} (x : Pool H p q) : ∃ o, H q = some o := by
  obtain ⟨i, b, t, s, cs, x⟩ := x
  exact ⟨_, x.hq⟩
theorem PoolAt.put {H H' : Hp} {p q : Addr} {i b t s i' b' t' s' : Int} {cs : List Int} (x : PoolAt H p q i b t s cs) (e : Ex H H') (hi : 0 ≤ i') (hb : 0 ≤ b') :
    PoolAt (upd H' p (.lst [.ref q, .int i', .int b', .int t', .int s'])) p q i' b' t' s' cs :=
  ⟨upd_same, by rw [upd_ne x.ne]; exact e _ _ x.hq, x.short, hi, hb⟩
def spPool (K : PySem.W.Frag) : Sp := fun vs H Q _ => ∃ (a : Addr) (ns : List Int), vs = [.ref a] ∧ SqL K H a (ns.map V.int) ∧ ∀ p q H', H p = none → H q = none → Ex H H' → Pool H' p q → Q (.ref p) H'
def spDraw : Sp := fun vs H Q _ => ∃ (p q : Addr) (m : Int), vs = [.ref p, .int m] ∧ 0 < m ∧ m.natAbs < 2 ^ 200 ∧ Pool H p q ∧ ∀ r H', 0 ≤ r → r < m → Oth p H H' → Pool H' p q → Q (.int r) H'
theorem cut63 (xs : List V) : cutV xs none (some 63) = xs.take 63 := by
  unfold cutV
  rw [HT.sIx_none, show HT.sIx xs.length xs.length (some 63) = min 63 xs.length from HT.sIx_nat xs.length xs.length 63]
  show (xs.drop 0).take (min 63 xs.length - 0) = _
  rw [List.drop_zero, Nat.sub_zero, List.take_eq_take_iff]
  omega
section
variable {P : Program} {w : World} {K : PySem.W.Frag} {mg : Str → Option Value} {base : Heap}
theorem ok_pool {f : Addr} {fd : FuncData} {k : Nat} (F : Fun K "_law_pool" "_law_pool" s_law_pool f fd) (z_int : mg "int" = none) (z_list : mg "list" = none) : FnOk P w K mg base CX0 (k + 1) f fd ["script"] (spPool K) := by
  have sc := sc_law_pool
  refine F.ok sc (fun vs H Q E h => ?_) (fun cdv A outer s H vs Q E hr h => ?_)
  · obtain ⟨a, ns, rfl, _⟩ := h
    rfl
  · obtain ⟨a, ns, rfl, hS, q⟩ := h
    refine ⟨_, (pss_cons (ps_set (i := 1) sc.nd rfl (by first | exact Or.inl rfl | exact Or.inr rfl) pe_int)
      (pss_cons (ps_for PassesOwn.never rfl (pi_list (pe_slice sl_list (pv 0) po_none (po_some pe_int))) (pg_name (i := 2) sc.nd rfl (by first | exact Or.inl rfl | exact Or.inr rfl))
      (pss_one (ps_set (i := 1) sc.nd rfl (by first | exact Or.inl rfl | exact Or.inr rfl) (pe_op op_modN (pe_callTy call_int1 (by rfl) z_int (by decide +kernel) (pa_cons (pe_op op_add (pe_op op_add (pe_op op_mul (pv 1) pe_int) (pv 2)) pe_int) pa_nil)) pe_int))))
      (pss_one (ps_ret (pe_lst (pa_cons (pe_callTy call_list_of (by rfl) z_list (by decide +kernel) (pa_cons (pe_slice sl_list (pv 0) po_none (po_some pe_int)) pa_nil)) (pa_cons pe_int (pa_cons pe_int (pa_cons pe_int (pa_cons (pv 1) pa_nil)))))))))), ?_⟩
    -- for cell in script[:63]
    refine ⟨.ref a, rfl, 63, rfl, a, ns.map V.int, rfl, hS, fun c nc => ?_⟩
    rw [cut63, ← List.map_take]
    refine ⟨c, rfl, ⟨_, .inl (.inl upd_same)⟩, for_list (xs := (ns.take 63).map V.int)
      (fun i σ H' => ∃ (n : Int) (y : Option V), σ = [some (.ref a), some (.int n), y] ∧ Ex H H' ∧ H' c = some (.lst ((ns.take 63).map V.int))) ⟨17, none, rfl, Ex.new nc, upd_same⟩ (fun i σ H' hi p => ?_) (fun i x σ H' hi p => ?_) (fun σ H' p => ?_)⟩
    · obtain ⟨n, y, rfl, e, hc⟩ := p
      exact .inl (.inl hc)
    · obtain ⟨n, y, rfl, e, hc⟩ := p
      rw [List.getElem?_map, Option.map_eq_some_iff] at hi
      obtain ⟨z, _, rfl⟩ := hi
      refine ⟨.int n, rfl, n, 43, rfl, rfl, .inr ⟨by decide, by decide⟩, .int z, rfl, n * 43, z, rfl, rfl, n * 43 + z, 3, rfl, rfl, .inl ⟨_, rfl, _, 2147483629, rfl, rfl, show (2147483629 : Int) ≠ 0 by decide, ?_⟩⟩
      exact ⟨_, some (.int z), rfl, e, hc⟩
    · obtain ⟨n, y, rfl, e, hc⟩ := p
      refine ⟨.ref a, rfl, 63, rfl, a, ns.map V.int, rfl, ex_l e hS, fun c2 nc2 => ?_⟩
      rw [cut63, ← List.map_take]
      refine ⟨c2, _, rfl, .inl (.inl (.inl upd_same)), fun l nl => ?_⟩
      refine ⟨.int n, rfl, Nat.le_of_ble_eq_true rfl, fun p np => ?_⟩
      have e2 := (e.trans (Ex.new nc2)).trans (Ex.new (o := .lst ((ns.take 63).map V.int)) nl)
      have e3 := e2.trans (Ex.new (o := .lst [.ref l, .int 0, .int 0, .int 0, .int n]) np)
      refine q p l _ (fresh_back e2 np) (fresh_back (e.trans (Ex.new nc2)) nl) e3 ⟨0, 0, 0, n, ns.take 63, upd_same, ?_, ?_, by decide, by decide⟩
      · rw [upd_ne (ne_of_none upd_same np)]
        exact upd_same
      · rw [List.length_take]; omega

theorem ev_ix0 {σ : L2.St} {H : Hp} {p : Addr} {xs : List V} {j : Nat} {v : V} (hs : σ[0]? = some (some (.ref p))) (h : H p = some (.lst xs)) (hx : xs[j]? = some v) : Ev (tOp (rIxL K) (tVar 0) (tC (.int (j : Int)))) σ H v :=
  ev_op (ev_var hs) ev_c (rv_ixL (sq_of h) (atI_nat hx))
theorem ev_int1 {σ : L2.St} {H : Hp} {te : TE} {n : Int} (h : Ev te σ H (.int n)) : Ev (tCB (fun xs H Q => (∃ i, xs = [.int i] ∧ Q (.int i) H) ∨ ∃ k, xs = [.bl k] ∧ Q (.int (if k then 1 else 0)) H) (tCons te tNil)) σ H (.int n) :=
  ev_cb (ea_cons h ea_nil) fun H1 _ _ q => .inl ⟨n, rfl, q H1 (Ex.refl H1)⟩
theorem fmod_in {a m : Int} (h : 0 < m) : 0 ≤ a.fmod m ∧ a.fmod m < m := by
  rw [Int.fmod_eq_emod_of_nonneg a (by omega)]
  exact ⟨Int.emod_nonneg a (by omega), Int.emod_lt_of_pos a h⟩
theorem ok_draw {f : Addr} {fd : FuncData} {k : Nat} (F : Fun K "_law_draw" "_law_draw" s_law_draw f fd) (z_int : mg "int" = none) (z_len : mg "len" = none) : FnOk P w K mg base CX0 (k + 1) f fd ["pool", "many"] spDraw := by
  have sc := sc_law_draw
  refine F.ok sc (fun vs H Q E h => ?_) (fun cdv A outer s H vs Q E hr h => ?_)
  · obtain ⟨p, q0, m, rfl, _⟩ := h
    rfl
  · obtain ⟨p, q0, m, rfl, hm, hb, ⟨i, b, t, s, cs, x⟩, q⟩ := h
    refine ⟨_, (pss_cons (ps_asg (pe_op op_add (pe_ix ix_list (pv 0) pe_int (fun _ _ => rfl)) pe_int) (pg_sub (pv 0) pe_int set_list))
      (Evl.pss_cut (ps_if (PW.pt (pw_and (pt_cmpR op_eq (pe_ix ix_list (pv 0) pe_int (fun _ _ => rfl)) pe_int (nomark _)) (pw_and1 (pt_cmpR op_lt (pe_ix ix_list (pv 0) pe_int (fun _ _ => rfl)) (pe_callB call_len_seq (by rfl) z_len (by decide +kernel) (pa_cons (pe_ix ix_list (pv 0) pe_int (fun _ _ => rfl)) pa_nil)) (nomark _)))))
      (pss_cons (ps_set (i := 3) sc.nd rfl (by first | exact Or.inl rfl | exact Or.inr rfl) (pe_ix ix_list (pe_ix ix_list (pv 0) pe_int (fun _ _ => rfl)) (pe_ix ix_list (pv 0) pe_int (fun _ _ => rfl)) (fun _ _ => rfl)))
      (pss_cons (ps_asg (pe_op op_add (pe_ix ix_list (pv 0) pe_int (fun _ _ => rfl)) pe_int) (pg_sub (pv 0) pe_int set_list))
      (pss_one (ps_if (pt_cmpR op_ge (pv 3) (pe_op op_pow pe_int pe_int) (nomark _))
      (pss_one (ps_asg (pv 3) (pg_sub (pv 0) pe_int set_list)))
      (pss_one (ps_asg (pe_op op_modN (pe_callTy call_int1 (by rfl) z_int (by decide +kernel) (pa_cons (pe_op op_add (pe_op op_add (pe_op op_mul (pe_ix ix_list (pv 0) pe_int (fun _ _ => rfl)) pe_int) (pv 3)) pe_int) pa_nil)) pe_int) (pg_sub (pv 0) pe_int set_list)))))))
      pss_nil)
      (pss_cons (ps_if (pt_cmpR op_gt (pe_ix ix_list (pv 0) pe_int (fun _ _ => rfl)) pe_int (nomark _))
      (pss_cons (ps_set (i := 4) sc.nd rfl (by first | exact Or.inl rfl | exact Or.inr rfl) (pe_op op_modN (pe_callTy call_int1 (by rfl) z_int (by decide +kernel) (pa_cons (pe_ix ix_list (pv 0) pe_int (fun _ _ => rfl)) pa_nil)) (pv 1)))
      (pss_cons (ps_asg (pe_op op_fdivW (pe_ix ix_list (pv 0) pe_int (fun _ _ => rfl)) (pv 1)) (pg_sub (pv 0) pe_int set_list))
      (pss_one (ps_ret (pv 4)))))
      pss_nil)
      (pss_cons (ps_set (i := 2) sc.nd rfl (by first | exact Or.inl rfl | exact Or.inr rfl) (pe_op op_modN (pe_callTy call_int1 (by rfl) z_int (by decide +kernel) (pa_cons (pe_op op_add (pe_op op_add (pe_op op_mul (pe_ix ix_list (pv 0) pe_int (fun _ _ => rfl)) pe_int) (pe_op op_mul (pe_ix ix_list (pv 0) pe_int (fun _ _ => rfl)) pe_int)) pe_int) pa_nil)) pe_int))
      (pss_cons (ps_set (i := 2) sc.nd rfl (by first | exact Or.inl rfl | exact Or.inr rfl) (pe_op op_modN (pe_callTy call_int1 (by rfl) z_int (by decide +kernel) (pa_cons (pe_op op_mul (pv 2) (pe_op op_add (pe_op op_fdivN (pv 2) pe_int) pe_int)) pa_nil)) pe_int))
      (pss_cons (ps_set (i := 2) sc.nd rfl (by first | exact Or.inl rfl | exact Or.inr rfl) (pe_op op_modN (pe_callTy call_int1 (by rfl) z_int (by decide +kernel) (pa_cons (pe_op op_mul (pv 2) (pe_op op_add (pe_op op_fdivN (pv 2) pe_int) pe_int)) pa_nil)) pe_int))
      (pss_one (ps_ret (pe_op op_modN (pe_callTy call_int1 (by rfl) z_int (by decide +kernel) (pa_cons (pe_op op_fdivN (pv 2) pe_int) pa_nil)) (pv 1)))))))))), ?_⟩
    have hm0 : m ≠ 0 := by omega
    -- pool[3] = pool[3] + 1
    refine q_setL (j := 3) x.hp (ev_op (ev_ix0 (j := 3) rfl x.hp rfl) ev_c rv_I0) (ev_var rfl) ev_c (by show _ < 5; decide) fun H1 e1 => ?_
    have x2 : PoolAt (upd H1 p (.lst [.ref q0, .int i, .int b, .int (t + 1), .int s])) p q0 i b (t + 1) s cs := x.put e1 x.i0 x.b0
    have o2 : Oth p H (upd H1 p (.lst [.ref q0, .int i, .int b, .int (t + 1), .int s])) := (Oth.of e1).trans Oth.upd
    -- if pool[2] == 0 and ..
    refine ⟨fun σ' H' => ∃ (c : Option V) (i' b' t' s' : Int), σ' = [some (.ref p), some (.int m), none, c, none] ∧ Oth p H H' ∧ PoolAt H' p q0 i' b' t' s' cs, ?_, ?_⟩
    · refine s_when (et_and (et_test (ev_op (ev_ix0 (j := 2) rfl x2.hp rfl) ev_c (rv_eq rfl))) fun hb => et_test (ev_op (ev_ix0 (j := 1) rfl x2.hp rfl) (ev_len (ev_ix0 (j := 0) rfl x2.hp rfl) (sq_of x2.hq)) rv_I0)) (fun hb H3 e3 => ?_) (fun hb H3 e3 => ⟨none, i, b, t + 1, s, rfl, o2.trans (.of e3), x2.ex e3⟩)
      have x3 := x2.ex e3
      have o3 : Oth p H H3 := o2.trans (.of e3)
      have hi : i < ((cs.map V.int).length : Int) := of_decide_eq_true (Bool.and_eq_true _ _ ▸ hb).2
      rw [List.length_map] at hi
      have hi2 : i.toNat < cs.length := by have := x.i0; omega
      refine q_asg (v := .int cs[i.toNat]) (ev_op (ev_ix0 (j := 0) rfl x3.hp rfl) (ev_ix0 (j := 1) rfl x3.hp rfl) (rv_ixL (sq_of x3.hq) (at_of (j := i.toNat) (by have := x.i0; omega) (by rw [List.getElem?_map, List.getElem?_eq_getElem hi2]; rfl)))) fun H4 e4 => ?_
      have x4 := x3.ex e4
      refine q_setL (j := 1) x4.hp (ev_op (ev_ix0 (j := 1) rfl x4.hp rfl) ev_c rv_I0) (ev_var rfl) ev_c (by show _ < 5; decide) fun H5 e5 => ?_
      have x5 : PoolAt (upd H5 p (.lst [.ref q0, .int (i + 1), .int b, .int (t + 1), .int s])) p q0 (i + 1) b (t + 1) s cs := x4.put e5 (by have := x.i0; omega) x.b0
      have o5 : Oth p H (upd H5 p (.lst [.ref q0, .int (i + 1), .int b, .int (t + 1), .int s])) := ((o3.trans (.of e4)).trans (.of e5)).trans Oth.upd
      refine s_if (et_test (ev_op (ev_var rfl) (ev_op ev_c ev_c (rv_I ⟨by decide, by decide, by decide⟩)) rv_I0)) (fun hc H6 e6 => ?_) (fun hc H6 e6 => ?_)
      · have x6 := x5.ex e6
        have hz : (0 : Int) ≤ cs[i.toNat] := Int.le_trans (by decide) (of_decide_eq_true hc)
        refine s_setL (j := 2) x6.hp (ev_var rfl) (ev_var rfl) ev_c (by show _ < 5; decide) fun H7 e7 => ?_
        exact ⟨_, i + 1, cs[i.toNat], t + 1, s, rfl, ((o5.trans (.of e6)).trans (.of e7)).trans Oth.upd, x6.put e7 x6.i0 hz⟩
      · have x6 := x5.ex e6
        refine s_setL (j := 4) x6.hp (ev_op (ev_int1 (ev_op (ev_op (ev_op (ev_ix0 (j := 4) rfl x6.hp rfl) ev_c (rv_I (.inr ⟨by decide, by decide⟩))) (ev_var rfl) rv_I0) ev_c rv_I0)) ev_c (rv_I (by decide +revert))) (ev_var rfl) ev_c (by show _ < 5; decide) fun H7 e7 => ?_
        exact ⟨_, i + 1, b, t + 1, _, rfl, ((o5.trans (.of e6)).trans (.of e7)).trans Oth.upd, x6.put e7 x6.i0 x6.b0⟩
    · rintro σ' H' ⟨c, i, b, t, s, rfl, o, x⟩
      refine q_when (et_test (ev_op (ev_ix0 (j := 2) rfl x.hp rfl) ev_c rv_I0)) (fun hc H2 e2 => ?_) (fun hc H2 e2 => ?_)
      · have x2 := x.ex e2
        refine q_asg (ev_op (ev_int1 (ev_ix0 (j := 2) rfl x2.hp rfl)) (ev_var rfl) (rv_I hm0)) fun H3 e3 => ?_
        have x3 := x2.ex e3
        refine q_setL (j := 2) x3.hp (ev_op (ev_ix0 (j := 2) rfl x3.hp rfl) (ev_var rfl) (rv_I (wide_div hm hb (by decide) (by decide)))) (ev_var rfl) ev_c (by show _ < 5; decide) fun H4 e4 => ?_
        refine s_ret (ev_var rfl) fun H5 e5 => ?_
        have x4 : PoolAt (upd H4 p (.lst [.ref q0, .int i, .int (b / m), .int t, .int s])) p q0 i (b / m) t s cs := x3.put e4 x3.i0 (Int.ediv_nonneg x3.b0 (by omega))
        exact q _ _ (fmod_in hm).1 (fmod_in hm).2 ((((o.trans (.of e2)).trans (.of e3)).trans (.of e4)).trans (Oth.upd.trans (.of e5))) ⟨_, _, _, _, _, x4.ex e5⟩
      · have x2 := x.ex e2
        refine q_asg (ev_op (ev_int1 (ev_op (ev_op (ev_op (ev_ix0 (j := 4) rfl x2.hp rfl) ev_c (rv_I (.inr ⟨by decide, by decide⟩))) (ev_op (ev_ix0 (j := 3) rfl x2.hp rfl) ev_c (rv_I (.inr ⟨by decide, by decide⟩))) rv_I0) ev_c rv_I0)) ev_c (rv_I (by decide +revert))) fun H3 e3 => ?_
        have n1 := @fmod_in (s * 69621 + t * 130363 + 12289) 2147483647 (by decide)
        generalize (s * 69621 + t * 130363 + 12289).fmod 2147483647 = n at n1 ⊢
        refine q_asg (ev_op (ev_int1 (ev_op (ev_var rfl) (ev_op (ev_op (ev_var rfl) ev_c (rv_I ⟨by decide, by decide⟩)) ev_c rv_I0) (rv_I (.inl ⟨by omega, by omega⟩)))) ev_c (rv_I (by decide +revert))) fun H4 e4 => ?_
        have n2 := @fmod_in (n * (n.fdiv 1013 + 48271)) 2147483647 (by decide)
        generalize (n * (n.fdiv 1013 + 48271)).fmod 2147483647 = n' at n2 ⊢
        refine q_asg (ev_op (ev_int1 (ev_op (ev_var rfl) (ev_op (ev_op (ev_var rfl) ev_c (rv_I ⟨by decide, by decide⟩)) ev_c rv_I0) (rv_I (.inl ⟨by omega, by omega⟩)))) ev_c (rv_I (by decide +revert))) fun H5 e5 => ?_
        refine s_ret (ev_op (ev_int1 (ev_op (ev_var rfl) ev_c (rv_I ⟨by decide, by decide⟩))) (ev_var rfl) (rv_I hm0)) fun H6 e6 => ?_
        have e := (((e2.trans e3).trans e4).trans e5).trans e6
        exact q _ _ (fmod_in hm).1 (fmod_in hm).2 (o.trans (.of e)) ⟨_, _, _, _, _, x.ex e⟩
end
abbrev s_law_number : Stmt := topS 37
theorem sc_law_number : FnScope ["pool"] ["pool"] (defScope s_law_number) := ⟨rfl, rfl, rfl, by decide +kernel, rfl, by decide +kernel, by decide +kernel⟩
section
variable {P : Program} {w : World} {K : PySem.W.Frag} {mg : Str → Option Value} {base : Heap}
def spNumber : Sp := fun vs H Q _ => ∃ (p q : Addr), vs = [.ref p] ∧ Pool H p q ∧ ∀ r H', r.natAbs < 2 ^ 170 → Oth p H H' → Pool H' p q → Q (.int r) H'
theorem ok_number {f : Addr} {fd : FuncData} {k : Nat} (F : Fun K "_law_number" "_law_number" s_law_number f fd) (C_law_draw : Cal P w K mg base 1 "_law_draw" spDraw []) (hk : 1 ≤ k) : FnOk P w K mg base CX0 (k + 1) f fd ["pool"] spNumber := by
  have sc := sc_law_number
  refine F.ok sc (fun vs H Q E h => ?_) (fun cdv A outer s H vs Q E hr h => ?_)
  · obtain ⟨p, q0, rfl, _⟩ := h
    rfl
  · obtain ⟨p, q0, rfl, x, q⟩ := h
    refine ⟨_, (pss_cons (ps_if (pt_cmpR op_eq (pe_c C_law_draw hr (by omega) (by rfl) (pa_cons (pv 0) (pa_cons pe_int pa_nil))) pe_int (nomark _))
      (pss_one (ps_ret (pe_op op_sub (pe_c C_law_draw hr (by omega) (by rfl) (pa_cons (pv 0) (pa_cons (pe_op op_mul pe_int (pe_op op_pow pe_int pe_int)) pa_nil))) (pe_op op_pow pe_int pe_int))))
      pss_nil)
      (pss_one (ps_ret (pe_op op_sub (pe_c C_law_draw hr (by omega) (by rfl) (pa_cons (pv 0) (pa_cons pe_int pa_nil))) pe_int)))), ?_⟩
    refine ⟨.ref p, rfl, p, q0, 5, rfl, by decide, by decide, x, fun r H1 h0 h1 o1 x1 => ?_⟩
    refine ⟨rfl, _, rfl, ite2 (fun _ => ?_) (fun _ => ?_)⟩
    · refine ⟨.ref p, rfl, 10, 49, rfl, rfl, ⟨by decide, by decide, by decide⟩, 2, _, rfl, rfl, .inl ⟨by decide, by decide⟩, p, q0, _, rfl, by decide, by decide, x1, fun r H2 h0 h1 o2 x2 => ?_⟩
      refine ⟨10, 49, rfl, rfl, ⟨by decide, by decide, by decide⟩, r, _, rfl, rfl, q _ _ ?_ (o1.trans o2) x2⟩
      have e : (2 * 10 ^ (49 : Int).toNat : Int) = 20000000000000000000000000000000000000000000000000 := by decide
      have e2 : (10 ^ (49 : Int).toNat : Int) = 10000000000000000000000000000000000000000000000000 := by decide
      have e3 : (2 ^ 170 : Nat) = 1496577676626844588240573268701473812127674924007424 := by decide
      rw [e] at h1
      rw [e2, e3]
      omega
    · refine ⟨.ref p, rfl, p, q0, 11, rfl, by decide, by decide, x1, fun r H2 h0 h1 o2 x2 => ?_⟩
      refine ⟨r, 5, rfl, rfl, q _ _ ?_ (o1.trans o2) x2⟩
      have e3 : (2 ^ 170 : Nat) = 1496577676626844588240573268701473812127674924007424 := by decide
      rw [e3]
      omega
end
/-! ### what draws -/
section
variable {K : PySem.W.Frag} {σ : L2.St} {H H' : Hp} {te : TE} {p q : Addr}
/-- te draws, and gives an int that is good -/
def Dw (p q : Addr) (te : TE) (σ : L2.St) (good : Int → Prop) : Prop := ∀ H1, Pool H1 p q → ∀ Q : VK, (∀ z H2, good z → Oth p H1 H2 → Pool H2 p q → Q (.int z) H2) → te σ H1 Q
/-- [e for k in range(n)] -/
theorem dw_rng {tr : TA} {j : Nat} {vs : List Nat} {n : Nat} {good : Int → Prop} (h : ∀ H1, EvA tr σ H1 [.int (n : Int)]) (hn : n ≤ 40000) (hw : ∀ x, wipe ((wipe σ vs).set j (some x)) vs = wipe σ vs)
    (he : ∀ i, i < n → Dw p q te ((wipe σ vs).set j (some (.int (i : Int)))) good) (x : Pool H p q) {Q : VK}
    (k : ∀ (ns : List Int) (D : Addr) (H2 : Hp), ns.length = n → (∀ z ∈ ns, good z) → H D = none → Oth p H H2 → Pool H2 p q → H2 D = some (.lst (ns.map V.int)) → Q (.ref D) H2) : tLc (iRng1 tr) (gName j) tYes te vs σ H Q :=
  h H H (Ex.refl H) _ fun H1 e1 => ⟨(n : Int), rfl, by omega, by omega, fun D hD => by
  have x1 := x.ex e1
  have hDp : D ≠ p := fun z => by
    obtain ⟨o, ho⟩ := x1.isP
    rw [z, ho] at hD; cases hD
  have hDq : D ≠ q := fun z => by
    obtain ⟨o, ho⟩ := x1.isQ
    rw [z, ho] at hD; cases hD
  refine lc_range (lo := 0) (n := ((n : Int) - 0).toNat) (fun i H' => ∃ ns : List Int, ns.length = i ∧ (∀ z ∈ ns, good z) ∧ Oth p H1 H' ∧ Pool H' p q ∧ H' D = some (.lst (ns.map V.int))) ⟨[], rfl, fun _ h => (nomatch h), .of (Ex.new hD), x1.ex (Ex.new hD), upd_same⟩ (fun i H' hi hP => ?_) (fun H' hP => ?_)
  · obtain ⟨ns, rfl, hg, o, x', hd⟩ := hP
    have e0 : (0 : Int) + (ns.length : Int) = (ns.length : Int) := Int.zero_add _
    show wipe ((wipe σ vs).set j (some (.int ((0 : Int) + (ns.length : Int))))) vs = wipe σ vs ∧ _
    refine ⟨hw _, ?_⟩
    rw [e0]
    show te _ _ _
    refine he _ (by omega) H' x' _ fun z H2 gz o2 x2 => ⟨_, o2 _ _ hDp hd, ?_, ns ++ [z], by simp, fun y hy => ?_, fun c u nc hc => ?_, x2.upd hDp hDq, ?_⟩
    · rw [List.length_map]; exact sz_lt (by omega)
    · rcases List.mem_append.mp hy with hy | hy
      · exact hg y hy
      · rw [List.mem_singleton.mp hy]; exact gz
    · rw [upd_ne (ne_of_none hc hD)]
      exact o2 _ _ nc (o _ _ nc hc)
    · rw [upd_same, List.map_append]; rfl
  · obtain ⟨ns, hl, hg, o, x', hd⟩ := hP
    exact k ns D H' (by omega) hg (fresh_back e1 hD) ((Oth.of e1).trans o) x' hd⟩
end
/-! ### data: what may stand in lists and tuples -/
mutual
/-- equal, kind for kind (actual, due) -/
def sm : PyData → PyData → Bool
  | .none, .none => true
  | .bool a, .bool b => decide (a = b)
  | .int a, .int b => decide (a = b)
  | .str a, .str b => decide (a = b)
  | .list xs, .list ys => smAll xs ys
  | .tuple xs, .tuple ys => smAll xs ys
  | _, _ => false
def smAll : List PyData → List PyData → Bool
  | [], [] => true
  | x :: xs, y :: ys => sm x y && smAll xs ys
  | _, _ => false
end
mutual
/-- at most n levels, no list longer than 10000, no dict -/
def fit : PyData → Nat → Bool
  | .list xs, n => match n with
    | 0 => false
    | m + 1 => decide (xs.length ≤ 10000) && fitAll xs m
  | .tuple xs, n => match n with
    | 0 => false
    | m + 1 => decide (xs.length ≤ 10000) && fitAll xs m
  | .dict _, _ => false
  | _, _ => true
def fitAll : List PyData → Nat → Bool
  | [], _ => true
  | x :: xs, n => fit x n && fitAll xs n
end
mutual
theorem sm_refl : ∀ (d : PyData) (n : Nat), fit d n = true → sm d d = true
  | .none, _, _ => by simp [sm]
  | .bool _, _, _ => by simp [sm]
  | .int _, _, _ => by simp [sm]
  | .str _, _, _ => by simp [sm]
  | .list xs, 0, h => by simp [fit] at h
  | .list xs, n + 1, h => by
    rw [fit, Bool.and_eq_true] at h
    rw [sm]
    exact smAll_refl xs n h.2
  | .tuple xs, 0, h => by simp [fit] at h
  | .tuple xs, n + 1, h => by
    rw [fit, Bool.and_eq_true] at h
    rw [sm]
    exact smAll_refl xs n h.2
  | .dict _, _, h => by simp [fit] at h
theorem smAll_refl : ∀ (xs : List PyData) (n : Nat), fitAll xs n = true → smAll xs xs = true
  | [], _, _ => by simp [smAll]
  | x :: xs, n, h => by
    rw [fitAll, Bool.and_eq_true] at h
    rw [smAll, sm_refl x n h.1, smAll_refl xs n h.2]
    rfl
end
mutual
theorem sm_eq : ∀ (d e : PyData), sm d e = true → d = e
  | .none, e, h => by cases e <;> simp_all [sm]
  | .bool _, e, h => by cases e <;> simp_all [sm]
  | .int _, e, h => by cases e <;> simp_all [sm]
  | .str _, e, h => by cases e <;> simp_all [sm]
  | .list xs, e, h => by
    cases e with
    | list ys => rw [sm] at h; rw [smAll_eq xs ys h]
    | _ => simp [sm] at h
  | .tuple xs, e, h => by
    cases e with
    | tuple ys => rw [sm] at h; rw [smAll_eq xs ys h]
    | _ => simp [sm] at h
  | .dict _, e, h => by cases e <;> simp [sm] at h
theorem smAll_eq : ∀ (xs ys : List PyData), smAll xs ys = true → xs = ys
  | [], ys, h => by cases ys <;> simp_all [smAll]
  | x :: xs, ys, h => by
    cases ys with
    | nil => simp [smAll] at h
    | cons y ys =>
      rw [smAll, Bool.and_eq_true] at h
      rw [sm_eq x y h.1, smAll_eq xs ys h.2]
end
theorem smAll_len : ∀ {xs ys : List PyData}, smAll xs ys = true → xs.length = ys.length := fun h => by rw [smAll_eq _ _ h]
theorem fitAll_mem : ∀ {xs : List PyData} {n : Nat} {x : PyData}, fitAll xs n = true → x ∈ xs → fit x n = true
  | y :: r, n, x, h, m => by
    rw [fitAll, Bool.and_eq_true] at h
    rcases List.mem_cons.mp m with rfl | m
    · exact h.1
    · exact fitAll_mem h.2 m
/-- by places -/
theorem smAll_at : ∀ {xs ys : List PyData}, xs.length = ys.length → (smAll xs ys = true ↔ ∀ i, i < ys.length → sm (xs.getD i .none) (ys.getD i .none) = true)
  | [], [], _ => by simp [smAll]
  | x :: xs, y :: ys, h => by
    have ih := smAll_at (xs := xs) (ys := ys) (by simpa using h)
    rw [smAll, Bool.and_eq_true, ih]
    constructor
    · rintro ⟨h1, h2⟩ i hi
      cases i with
      | zero => exact h1
      | succ i => exact h2 i (by simpa using hi)
    · intro h
      exact ⟨h 0 (by simp), fun i hi => h (i + 1) (by simpa using hi)⟩
theorem given_zero {n : Nat} {f : Nat → Bool} {v : Nat → V} : (given n f v).length = 0 ↔ ∀ i, i < n → f i = false := by
  unfold given
  rw [List.length_map, List.length_eq_zero_iff, List.filter_eq_nil_iff]
  constructor
  · intro h i hi
    have := h i (List.mem_range.mpr hi)
    simpa using this
  · intro h i hi
    rw [h i (List.mem_range.mp hi)]
    decide
theorem smAll_given {xs ys : List PyData} (h : xs.length = ys.length) (v : Nat → V) : decide (((given ys.length (fun i => !sm (xs.getD i .none) (ys.getD i .none)) v).length : Int) = 0) = smAll xs ys := by
  have h1 := given_zero (n := ys.length) (f := fun i => !sm (xs.getD i .none) (ys.getD i .none)) (v := v)
  have h2 := smAll_at h
  cases e : smAll xs ys with
  | true =>
    rw [decide_eq_true_eq]
    have := h1.mpr fun i hi => by
      show (!sm (xs.getD i .none) (ys.getD i .none)) = false
      rw [h2.mp e i hi]; rfl
    omega
  | false =>
    rw [decide_eq_false_iff_not]
    intro z
    have hz : (given ys.length (fun i => !sm (xs.getD i .none) (ys.getD i .none)) v).length = 0 := by omega
    have := h2.mpr fun i hi => by
      have := h1.mp hz i hi
      simpa using this
    rw [e] at this
    cases this
section
variable {K : PySem.W.Frag} {H H' : Hp}
mutual
theorem dp_ex (e : Ex H H') : ∀ (d : PyData) (v : V), Dp K H v d → Dp K H' v d
  | .none, _, h => by cases h; exact .non
  | .bool _, _, h => by cases h; exact .bl _
  | .int _, _, h => by cases h; exact .int _
  | .str _, _, h => by cases h; exact .str _
  | .list ds, _, h => by
    cases h with
    | lst s a => exact .lst (ex_l e s) (dpa_ex e ds _ a)
  | .tuple ds, _, h => by
    cases h with
    | tup s a => exact .tup (ex_t e s) (dpa_ex e ds _ a)
  | .dict _, _, h => by cases h
theorem dpa_ex (e : Ex H H') : ∀ (ds : List PyData) (vs : List V), DpAll K H vs ds → DpAll K H' vs ds
  | [], _, h => by cases h; exact .nil
  | d :: ds, _, h => by
    cases h with
    | cons a b => exact .cons (dp_ex e d _ a) (dpa_ex e ds _ b)
end
theorem dpa_len : ∀ {vs : List V} {ds : List PyData}, DpAll K H vs ds → vs.length = ds.length
  | _, _, .nil => rfl
  | _, _, .cons _ b => by rw [List.length_cons, List.length_cons, dpa_len b]
theorem dpa_at : ∀ {vs : List V} {ds : List PyData} {i : Nat}, DpAll K H vs ds → i < ds.length → ∃ v, vs[i]? = some v ∧ Dp K H v (ds.getD i .none)
  | _, _, i, .nil, h => by simp at h
  | _, _, 0, .cons a _, _ => ⟨_, rfl, a⟩
  | _, _, i + 1, .cons _ b, h => by
    obtain ⟨v, h1, h2⟩ := dpa_at (i := i) b (by simpa using h)
    exact ⟨v, h1, h2⟩
theorem dpa_ints : ∀ ns : List Int, DpAll K H (ns.map V.int) (ns.map PyData.int)
  | [] => .nil
  | n :: r => .cons (.int n) (dpa_ints r)
theorem fit_ints : ∀ (ns : List Int) (n : Nat), fitAll (ns.map PyData.int) n = true
  | [], n => by simp [fitAll]
  | z :: r, n => by
    rw [List.map_cons, fitAll, fit_ints r n]
    simp [fit]
def tyn : PyData → String
  | .none => "NoneType"
  | .bool _ => "bool"
  | .int _ => "int"
  | .str _ => "str"
  | .list _ => "list"
  | .tuple _ => "tuple"
  | .dict _ => "dict"
theorem dp_ty {v : V} {d : PyData} (h : Dp K H v d) : TyX K H v (.type (tyn d)) := by
  cases h with
  | non => exact .base .non
  | bl b => exact .base (.bl b)
  | int i => exact .base (.int i)
  | str x => exact .base (.str x)
  | lst s _ =>
    rcases s with (s | ⟨o, s⟩) | ⟨o, its, n, l, c, _⟩
    · exact .base (.lst s)
    · exact .base (.frz s)
    · exact .kList l c
  | tup s _ =>
    rcases s with (s | ⟨o, s⟩) | ⟨o, its, n, l, c, _⟩
    · exact .base (.tup s)
    · exact .fTuple s
    · exact .kTuple l c
/-- isinstance(d, c), c one of bool, int, str, list, tuple -/
def isaS (t c : String) : Bool := (kitB t c).getD false
def isa (d : PyData) (c : String) : Bool := isaS (tyn d) c
theorem kit_all : ∀ t ∈ ["NoneType", "bool", "int", "str", "list", "tuple", "dict"], kitB t "bool" = some (isaS t "bool") ∧ kitB t "int" = some (isaS t "int") ∧ kitB t "str" = some (isaS t "str") ∧ kitB t "list" = some (isaS t "list") ∧ kitB t "tuple" = some (isaS t "tuple") := by
  decide +kernel
theorem tyn_mem (d : PyData) : tyn d ∈ ["NoneType", "bool", "int", "str", "list", "tuple", "dict"] := by
  cases d <;> simp [tyn]
theorem kitB_isa (d : PyData) : kitB (tyn d) "bool" = some (isa d "bool") ∧ kitB (tyn d) "int" = some (isa d "int") ∧ kitB (tyn d) "str" = some (isa d "str") ∧ kitB (tyn d) "list" = some (isa d "list") ∧ kitB (tyn d) "tuple" = some (isa d "tuple") :=
  kit_all _ (tyn_mem d)
theorem isa_bool : ∀ d : PyData, isa d "bool" = (match d with | .bool _ => true | _ => false)
  | .none => (by decide +kernel : isaS "NoneType" "bool" = false)
  | .bool _ => (by decide +kernel : isaS "bool" "bool" = true)
  | .int _ => (by decide +kernel : isaS "int" "bool" = false)
  | .str _ => (by decide +kernel : isaS "str" "bool" = false)
  | .list _ => (by decide +kernel : isaS "list" "bool" = false)
  | .tuple _ => (by decide +kernel : isaS "tuple" "bool" = false)
  | .dict _ => (by decide +kernel : isaS "dict" "bool" = false)
theorem isa_int : ∀ d : PyData, isa d "int" = (match d with | .int _ => true | .bool _ => true | _ => false)
  | .none => (by decide +kernel : isaS "NoneType" "int" = false)
  | .bool _ => (by decide +kernel : isaS "bool" "int" = true)
  | .int _ => (by decide +kernel : isaS "int" "int" = true)
  | .str _ => (by decide +kernel : isaS "str" "int" = false)
  | .list _ => (by decide +kernel : isaS "list" "int" = false)
  | .tuple _ => (by decide +kernel : isaS "tuple" "int" = false)
  | .dict _ => (by decide +kernel : isaS "dict" "int" = false)
theorem isa_str : ∀ d : PyData, isa d "str" = (match d with | .str _ => true | _ => false)
  | .none => (by decide +kernel : isaS "NoneType" "str" = false)
  | .bool _ => (by decide +kernel : isaS "bool" "str" = false)
  | .int _ => (by decide +kernel : isaS "int" "str" = false)
  | .str _ => (by decide +kernel : isaS "str" "str" = true)
  | .list _ => (by decide +kernel : isaS "list" "str" = false)
  | .tuple _ => (by decide +kernel : isaS "tuple" "str" = false)
  | .dict _ => (by decide +kernel : isaS "dict" "str" = false)
theorem isa_list : ∀ d : PyData, isa d "list" = (match d with | .list _ => true | _ => false)
  | .none => (by decide +kernel : isaS "NoneType" "list" = false)
  | .bool _ => (by decide +kernel : isaS "bool" "list" = false)
  | .int _ => (by decide +kernel : isaS "int" "list" = false)
  | .str _ => (by decide +kernel : isaS "str" "list" = false)
  | .list _ => (by decide +kernel : isaS "list" "list" = true)
  | .tuple _ => (by decide +kernel : isaS "tuple" "list" = false)
  | .dict _ => (by decide +kernel : isaS "dict" "list" = false)
theorem isa_tuple : ∀ d : PyData, isa d "tuple" = (match d with | .tuple _ => true | _ => false)
  | .none => (by decide +kernel : isaS "NoneType" "tuple" = false)
  | .bool _ => (by decide +kernel : isaS "bool" "tuple" = false)
  | .int _ => (by decide +kernel : isaS "int" "tuple" = false)
  | .str _ => (by decide +kernel : isaS "str" "tuple" = false)
  | .list _ => (by decide +kernel : isaS "list" "tuple" = false)
  | .tuple _ => (by decide +kernel : isaS "tuple" "tuple" = true)
  | .dict _ => (by decide +kernel : isaS "dict" "tuple" = false)
theorem ev_isi {σ : L2.St} {te : TE} {x : V} {d : PyData} {c : String} {b : Bool} (hd : Dp K H x d) (h : Ev te σ H x) (hk : kitB (tyn d) c = some b) : Ev (tCB (rIsi K) (tCons te (tCons (tC (.ty c)) tNil))) σ H (.bl b) :=
  ev_cb (ea_cons h (ea_cons ev_c ea_nil)) fun H1 e Q q => ⟨x, .ty c, _, _, b, rfl, .ty c, dp_ty (dp_ex e d x hd), kit_ty hk, q H1 (Ex.refl H1)⟩
/-- isinstance(x, (list, tuple)) -/
theorem ev_isiLT {σ : L2.St} {te : TE} {x : V} {d : PyData} (hd : Dp K H x d) (h : Ev te σ H x) : Ev (tCB (rIsiT K) (tCons te (tCons (tTup (tCons (tC (.ty "list")) (tCons (tC (.ty "tuple")) tNil))) tNil))) σ H (.bl (isa d "list" || isa d "tuple")) := fun H1 e Q q =>
  h H1 e _ fun H2 e2 => ⟨by decide, fun p hp => ⟨x, p, _, _, _, _, rfl, upd_same, .cons (.ty _) (.cons (.ty _) .nil), dp_ty (dp_ex ((e.trans e2).trans (Ex.new hp)) d x hd),
    kitAny_cons (kit_ty (kitB_isa d).2.2.2.1) (fun hb => kitAny_cons (r := isa d "list" || isa d "tuple") (kit_ty (kitB_isa d).2.2.2.2) (fun hc => by rw [hb, hc]; exact kitAny_nil) (fun hc => by rw [hc, Bool.or_true])) (fun hb => by rw [hb, Bool.true_or]),
    q _ (e2.trans (Ex.new hp))⟩⟩
theorem ev_isN {σ : L2.St} {te : TE} {x : V} (h : Ev te σ H x) : Ev (tOp (fun x y H Q => y = .non ∧ Q (.bl (decide (x = .non))) H) te (tC .non)) σ H (.bl (decide (x = .non))) :=
  ev_op h ev_c (rv_val fun _ _ _ q => ⟨rfl, q⟩)
/-- a list or a tuple -/
def Sq (K : PySem.W.Frag) (H : Hp) (a : Addr) (xs : List V) : Prop := SqL K H a xs ∨ SqT K H a xs
theorem sq_ex {a : Addr} {xs : List V} (e : Ex H H') (h : Sq K H a xs) : Sq K H' a xs := h.imp (ex_l e) (ex_t e)
theorem ev_lenS {σ : L2.St} {ta : TE} {p : Addr} {xs : List V} (ha : Ev ta σ H (.ref p)) (h : Sq K H p xs) : Ev (tCB (rLenS K) (tCons ta tNil)) σ H (.int (xs.length : Int)) := fun H1 e Q q =>
  ha H1 e _ fun H2 e2 => ⟨p, xs, rfl, sq_ex (e.trans e2) h, q H2 e2⟩
theorem rv_ixS {p : Addr} {xs : List V} {i : Int} {v : V} (h : Sq K H p xs) (ha : atI xs i = some v) : RV (rIx K) (.ref p) (.int i) H v := fun H1 e _ q => by
  rcases h with h | h
  · exact .inl ⟨p, xs, i, v, rfl, rfl, ex_l e h, ha, q H1 (Ex.refl H1)⟩
  · exact .inr (.inl ⟨p, xs, i, v, rfl, rfl, ex_t e h, ha, q H1 (Ex.refl H1)⟩)
end
abbrev s_law_same : Stmt := topS 38
theorem sc_law_same : FnScope ["actual", "due", "k"] ["actual", "due"] (defScope s_law_same) := ⟨rfl, rfl, rfl, by decide +kernel, rfl, by decide +kernel, by decide +kernel⟩
section
variable {P : Program} {w : World} {K : PySem.W.Frag} {mg : Str → Option Value} {base : Heap}
def spSame (K : PySem.W.Frag) (n : Nat) : Sp := fun vs H Q _ => ∃ (x y : V) (d e : PyData) (m : Nat), vs = [x, y] ∧ n = m + 1 ∧ Dp K H x d ∧ Dp K H y e ∧ fit d m = true ∧ fit e m = true ∧ ∀ H', Ex H H' → Q (.bl (sm d e)) H'
theorem scal_bool {H : Hp} {x y : V} {d e : PyData} (hx : Dp K H x d) (hy : Dp K H y e) (h1 : isa e "bool" = true) (h2 : isa d "bool" = true) : scal x y = true := by
  rw [isa_bool] at h1 h2
  cases hx <;> simp at h2
  cases hy <;> simp at h1
  rfl
theorem scal_int {H : Hp} {x y : V} {d e : PyData} (hx : Dp K H x d) (hy : Dp K H y e) (c1 : isa e "bool" = false) (c2 : isa d "bool" = false) (h1 : isa e "int" = true) (h2 : isa d "int" = true) : scal x y = true := by
  rw [isa_bool] at c1 c2
  rw [isa_int] at h1 h2
  cases hx <;> simp at h2 c2
  cases hy <;> simp at h1 c1
  rfl
theorem scal_str {H : Hp} {x y : V} {d e : PyData} (hx : Dp K H x d) (hy : Dp K H y e) (h1 : isa e "str" = true) (h2 : isa d "str" = true) : scal x y = true := by
  rw [isa_str] at h1 h2
  cases hx <;> simp at h2
  cases hy <;> simp at h1
  rfl
theorem ans_non {H : Hp} {x y : V} {d e : PyData} (hx : Dp K H x d) (hy : Dp K H y e) (h : y = .non) : decide (x = V.non) = sm d e := by
  subst h
  cases hy
  cases hx <;> simp [sm]
theorem ans_bool {H : Hp} {x y : V} {d e : PyData} (hx : Dp K H x d) (hy : Dp K H y e) (hn : decide (y = V.non) = false) (h : (isa e "bool" || isa d "bool") = true) : (isa e "bool" && (isa d "bool" && decide (x = y))) = sm d e := by
  rw [isa_bool, isa_bool] at h ⊢
  cases hy <;> simp at hn <;> cases hx <;> simp [sm] at h ⊢
theorem ans_int {H : Hp} {x y : V} {d e : PyData} (hx : Dp K H x d) (hy : Dp K H y e) (c1 : isa e "bool" = false) (c2 : isa d "bool" = false) (h : isa e "int" = true) : (isa d "int" && decide (x = y)) = sm d e := by
  rw [isa_bool] at c1 c2
  rw [isa_int] at h ⊢
  cases hy <;> simp at h c1 <;> cases hx <;> simp [sm] at c2 ⊢
theorem ans_str {H : Hp} {x y : V} {d e : PyData} (hx : Dp K H x d) (hy : Dp K H y e) (h : isa e "str" = true) : (isa d "str" && decide (x = y)) = sm d e := by
  rw [isa_str] at h ⊢
  cases hy <;> simp at h <;> cases hx <;> simp [sm]
theorem ans_kind {H : Hp} {x y : V} {d e : PyData} (hx : Dp K H x d) (hy : Dp K H y e) (hn : decide (y = V.non) = false) (c1 : isa e "bool" = false) (hi : isa e "int" = false) (hs : isa e "str" = false)
    (h : ((!decide (V.bl (isa e "list") = V.bl (isa d "list"))) || !(isa d "list" || isa d "tuple")) = true) : false = sm d e := by
  rw [isa_list, isa_list, isa_tuple] at h
  rw [isa_int] at hi
  rw [isa_str] at hs
  rw [isa_bool] at c1
  cases hy <;> simp at hn hi hs c1 <;> cases hx <;> simp [sm] at h ⊢
theorem fit_list {xs : List PyData} {n : Nat} (h : fit (.list xs) n = true) : ∃ m, n = m + 1 ∧ xs.length ≤ 10000 ∧ fitAll xs m = true := by
  cases n with
  | zero => simp [fit] at h
  | succ m =>
    rw [fit, Bool.and_eq_true] at h
    exact ⟨m, rfl, of_decide_eq_true h.1, h.2⟩
theorem fit_tuple {xs : List PyData} {n : Nat} (h : fit (.tuple xs) n = true) : ∃ m, n = m + 1 ∧ xs.length ≤ 10000 ∧ fitAll xs m = true := by
  cases n with
  | zero => simp [fit] at h
  | succ m =>
    rw [fit, Bool.and_eq_true] at h
    exact ⟨m, rfl, of_decide_eq_true h.1, h.2⟩
theorem fit_two {xs ys : List PyData} {n : Nat} (h1 : ∃ m, n = m + 1 ∧ xs.length ≤ 10000 ∧ fitAll xs m = true) (h2 : ∃ m, n = m + 1 ∧ ys.length ≤ 10000 ∧ fitAll ys m = true) :
    ∃ m, n = m + 1 ∧ xs.length ≤ 10000 ∧ ys.length ≤ 10000 ∧ fitAll xs m = true ∧ fitAll ys m = true := by
  obtain ⟨m, rfl, a, b⟩ := h1
  obtain ⟨m', e, c, d⟩ := h2
  have : m' = m := by omega
  subst this
  exact ⟨_, rfl, a, c, b, d⟩
/-- both sides hold items -/
theorem both_items {H : Hp} {x y : V} {d e : PyData} (hx : Dp K H x d) (hy : Dp K H y e) (h1 : isa d "list" = isa e "list") (h2 : (isa d "list" || isa d "tuple") = true) (hn : decide (y = .non) = false) (h4 : isa e "int" = false) (h5 : isa e "str" = false) :
    ∃ a xs ds b ys es, x = .ref a ∧ y = .ref b ∧ Sq K H a xs ∧ Sq K H b ys ∧ DpAll K H xs ds ∧ DpAll K H ys es ∧ sm d e = smAll ds es ∧ ∀ n, fit d n = true → fit e n = true → ∃ m, n = m + 1 ∧ ds.length ≤ 10000 ∧ es.length ≤ 10000 ∧ fitAll ds m = true ∧ fitAll es m = true := by
  rw [isa_list, isa_list] at h1
  rw [isa_list, isa_tuple] at h2
  rw [isa_int] at h4
  rw [isa_str] at h5
  cases hx with
  | lst s a =>
    cases hy with
    | lst s2 a2 => exact ⟨_, _, _, _, _, _, rfl, rfl, .inl s, .inl s2, a, a2, by rw [sm], fun n f g => fit_two (fit_list f) (fit_list g)⟩
    | non => cases hn
    | _ => cases h1
  | tup s a =>
    cases hy with
    | tup s2 a2 => exact ⟨_, _, _, _, _, _, rfl, rfl, .inr s, .inr s2, a, a2, by rw [sm], fun n f g => fit_two (fit_tuple f) (fit_tuple g)⟩
    | lst _ _ => cases h1
    | non => cases hn
    | bl => cases h4
    | int => cases h4
    | str => cases h5
  | _ => cases h2
theorem same_step {f : Addr} {fd : FuncData} {n : Nat} (F : Fun K "_law_same" "_law_same" s_law_same f fd) (z_len : mg "len" = none) (z_isinstance : mg "isinstance" = none) (z_bool : mg "bool" = none) (z_int : mg "int" = none) (z_str : mg "str" = none)
    (z_list : mg "list" = none) (z_tuple : mg "tuple" = none) (z_range : mg "range" = none) (C_law_same : Cal P w K mg base n "_law_same" (spSame K n) []) : FnOk P w K mg base CX0 (n + 1) f fd ["actual", "due"] (spSame K (n + 1)) := by
  have sc := sc_law_same
  refine F.ok sc (fun vs H Q E h => ?_) (fun cdv A outer s H vs Q E hr h => ?_)
  · obtain ⟨x, y, d, e, m, rfl, _⟩ := h
    rfl
  · obtain ⟨x, y, d, e, n', rfl, en, hx, hy, fx, fy, q⟩ := h
    obtain rfl : n' = n := by omega
    refine ⟨_, (pss_cons (ps_if (pt_cmpR op_isN (pv 1) pe_non (nomark _))
      (pss_one (ps_ret (pe_cmpR op_isN (pv 0) pe_non (nomark _))))
      pss_nil)
      (pss_cons (ps_if (PW.pt (pw_or (pt_val (pe_callB call_isi (by rfl) z_isinstance (by decide +kernel) (pa_cons (pv 1) (pa_cons (pe_bltn (v := .ty "bool") (by rfl) z_bool (by decide +kernel) rfl) pa_nil)))) (pw_or1 (pt_val (pe_callB call_isi (by rfl) z_isinstance (by decide +kernel) (pa_cons (pv 0) (pa_cons (pe_bltn (v := .ty "bool") (by rfl) z_bool (by decide +kernel) rfl) pa_nil)))))))
      (pss_one (ps_ret (pe_and (pe_callB call_isi (by rfl) z_isinstance (by decide +kernel) (pa_cons (pv 1) (pa_cons (pe_bltn (v := .ty "bool") (by rfl) z_bool (by decide +kernel) rfl) pa_nil))) (pe_and (pe_callB call_isi (by rfl) z_isinstance (by decide +kernel) (pa_cons (pv 0) (pa_cons (pe_bltn (v := .ty "bool") (by rfl) z_bool (by decide +kernel) rfl) pa_nil))) (pe_one (pe_cmpR op_eq (pv 0) (pv 1) (nomark _)))))))
      pss_nil)
      (pss_cons (ps_if (pt_val (pe_callB call_isi (by rfl) z_isinstance (by decide +kernel) (pa_cons (pv 1) (pa_cons (pe_bltn (v := .ty "int") (by rfl) z_int (by decide +kernel) rfl) pa_nil))))
      (pss_one (ps_ret (pe_and (pe_callB call_isi (by rfl) z_isinstance (by decide +kernel) (pa_cons (pv 0) (pa_cons (pe_bltn (v := .ty "int") (by rfl) z_int (by decide +kernel) rfl) pa_nil))) (pe_one (pe_cmpR op_eq (pv 0) (pv 1) (nomark _))))))
      pss_nil)
      (pss_cons (ps_if (pt_val (pe_callB call_isi (by rfl) z_isinstance (by decide +kernel) (pa_cons (pv 1) (pa_cons (pe_bltn (v := .ty "str") (by rfl) z_str (by decide +kernel) rfl) pa_nil))))
      (pss_one (ps_ret (pe_and (pe_callB call_isi (by rfl) z_isinstance (by decide +kernel) (pa_cons (pv 0) (pa_cons (pe_bltn (v := .ty "str") (by rfl) z_str (by decide +kernel) rfl) pa_nil))) (pe_one (pe_cmpR op_eq (pv 0) (pv 1) (nomark _))))))
      pss_nil)
      (pss_cons (ps_if (PW.pt (pw_or (pt_cmpR op_ne (pe_callB call_isi (by rfl) z_isinstance (by decide +kernel) (pa_cons (pv 1) (pa_cons (pe_bltn (v := .ty "list") (by rfl) z_list (by decide +kernel) rfl) pa_nil))) (pe_callB call_isi (by rfl) z_isinstance (by decide +kernel) (pa_cons (pv 0) (pa_cons (pe_bltn (v := .ty "list") (by rfl) z_list (by decide +kernel) rfl) pa_nil))) (nomark _)) (pw_or1 (pt_not (pt_val (pe_callB call_isiT (by rfl) z_isinstance (by decide +kernel) (pa_cons (pv 0) (pa_cons (pe_tup (pa_cons (pe_bltn (v := .ty "list") (by rfl) z_list (by decide +kernel) rfl) (pa_cons (pe_bltn (v := .ty "tuple") (by rfl) z_tuple (by decide +kernel) rfl) pa_nil))) pa_nil))))))))
      (pss_one (ps_ret pe_bl))
      pss_nil)
      (pss_cons (ps_if (pt_cmpR op_ne (pe_callB call_len_seq (by rfl) z_len (by decide +kernel) (pa_cons (pv 0) pa_nil)) (pe_callB call_len_seq (by rfl) z_len (by decide +kernel) (pa_cons (pv 1) pa_nil)) (nomark _))
      (pss_one (ps_ret pe_bl))
      pss_nil)
      (pss_one (ps_ret (pe_cmpR op_eq (pe_callB call_len_seq (by rfl) z_len (by decide +kernel) (pa_cons (pe_lc (own := [("k", 2)]) (by rfl) sc.nd (pi_range1 (by rfl) z_range (pa_cons (pe_callB call_len_seq (by rfl) z_len (by decide +kernel) (pa_cons (pv 1) pa_nil)) pa_nil)) (blkOk_by (own := [("k", 2)]) (N := ["actual", "due", "k"]) (sc := defScope s_law_same) (by decide +kernel)) (fun _ _ _ _ _ => (pg_name (i := 2) sc.nd rfl (by first | exact Or.inl rfl | exact Or.inr rfl))) (fun _ _ _ _ _ => (pts_one (pt_not (pt_val (pe_c C_law_same hr (by omega) (by rfl) (pa_cons (pe_ix (ix_seq : IxR _ (rIx K)) (pv 0) (pv 2) (fun _ _ => rfl)) (pa_cons (pe_ix (ix_seq : IxR _ (rIx K)) (pv 1) (pv 2) (fun _ _ => rfl)) pa_nil))))))) (fun _ _ _ _ _ => (pv 2))) pa_nil)) pe_int (nomark _)))))))))), ?_⟩
    have kd := kitB_isa d
    have ke := kitB_isa e
    have vx : ∀ H1, Ex H H1 → Dp K H1 x d := fun H1 a => dp_ex a d x hx
    have vy : ∀ H1, Ex H H1 → Dp K H1 y e := fun H1 a => dp_ex a e y hy
    -- if due is None
    refine q_when (et_test (ev_isN (ev_var rfl))) (fun hb H1 e1 => ?_) (fun hb H1 e1 => ?_)
    · refine s_ret (ev_isN (ev_var rfl)) fun H2 e2 => ?_
      have z := ans_non hx hy (of_decide_eq_true hb)
      rw [z]
      exact q H2 (e1.trans e2)
    -- if isinstance(due, bool) or isinstance(actual, bool)
    refine q_when (et_or (et_B (ev_isi (vy _ e1) (ev_var rfl) ke.1)) fun _ => et_B (ev_isi (vx _ e1) (ev_var rfl) kd.1)) (fun hc H2 e2 => ?_) (fun hc H2 e2 => ?_)
    · have e12 := e1.trans e2
      refine s_ret (ev_andV (ev_isi (vy _ e12) (ev_var rfl) ke.1) fun h1 => ev_andV (b := decide (x = y)) (ev_isi (vx _ e12) (ev_var rfl) kd.1) fun h2 => ev_op (ev_var rfl) (ev_var rfl) (rv_eq ?_)) fun H3 e3 => ?_
      · exact scal_bool hx hy h1 h2
      · have z := ans_bool hx hy hb hc
        rw [z]
        exact q H3 (e12.trans e3)
    have e12 := e1.trans e2
    obtain ⟨c1, c2⟩ := Bool.or_eq_false_iff.mp hc
    -- if isinstance(due, int)
    refine q_when (et_B (ev_isi (vy _ e12) (ev_var rfl) ke.2.1)) (fun hc H3 e3 => ?_) (fun hci H3 e3 => ?_)
    · have e13 := e12.trans e3
      refine s_ret (ev_andV (b := decide (x = y)) (ev_isi (vx _ e13) (ev_var rfl) kd.2.1) fun h2 => ev_op (ev_var rfl) (ev_var rfl) (rv_eq ?_)) fun H4 e4 => ?_
      · exact scal_int hx hy c1 c2 hc h2
      · have z := ans_int hx hy c1 c2 hc
        rw [z]
        exact q H4 (e13.trans e4)
    have e13 := e12.trans e3
    -- if isinstance(due, str)
    refine q_when (et_B (ev_isi (vy _ e13) (ev_var rfl) ke.2.2.1)) (fun hc H4 e4 => ?_) (fun hcs H4 e4 => ?_)
    · have e14 := e13.trans e4
      refine s_ret (ev_andV (b := decide (x = y)) (ev_isi (vx _ e14) (ev_var rfl) kd.2.2.1) fun h2 => ev_op (ev_var rfl) (ev_var rfl) (rv_eq ?_)) fun H5 e5 => ?_
      · exact scal_str hx hy hc h2
      · have z := ans_str hx hy hc
        rw [z]
        exact q H5 (e14.trans e5)
    have e14 := e13.trans e4
    -- if isinstance(due, list) != isinstance(actual, list) or not isinstance(actual, (list, tuple))
    refine q_when (et_or (et_test (ev_op (ev_isi (vy _ e14) (ev_var rfl) ke.2.2.2.1) (ev_isi (vx _ e14) (ev_var rfl) kd.2.2.2.1) (rv_ne rfl))) fun _ => et_not (et_B (ev_isiLT (vx _ e14) (ev_var rfl)))) (fun hc H5 e5 => ?_) (fun hc H5 e5 => ?_)
    · refine s_ret ev_c fun H6 e6 => ?_
      have z := ans_kind hx hy hb c1 hci hcs hc
      rw [z]
      exact q H6 ((e14.trans e5).trans e6)
    have e15 := e14.trans e5
    obtain ⟨c3, c4⟩ := Bool.or_eq_false_iff.mp hc
    have c5 : isa d "list" = isa e "list" := by
      have := of_decide_eq_true (by simpa using c3 : decide (V.bl (isa e "list") = V.bl (isa d "list")) = true)
      exact (V.bl.inj this).symm
    obtain ⟨a, xs, ds, b, ys, es, rfl, rfl, sx, sy, ax, ay, es0, ft⟩ := both_items (vx _ e15) (vy _ e15) c5 (by rw [Bool.not_eq_false'] at c4; exact c4) hb hci hcs
    obtain ⟨m, em, lx, ly, gx, gy⟩ := ft n' fx fy
    have l1 := dpa_len ax
    have l2 := dpa_len ay
    -- if len(actual) != len(due)
    refine q_when (et_test (ev_op (ev_lenS (ev_var rfl) sx) (ev_lenS (ev_var rfl) sy) (rv_ne rfl))) (fun hc H6 e6 => ?_) (fun hc H6 e6 => ?_)
    · refine s_ret ev_c fun H7 e7 => ?_
      have z : false = sm d e := by
        rw [es0]
        cases e9 : smAll ds es with
        | false => rfl
        | true =>
          have := smAll_len e9
          have h9 : (xs.length : Int) = (ys.length : Int) := by omega
          rw [h9] at hc
          simp at hc
      rw [z]
      exact q H7 ((e15.trans e6).trans e7)
    have h9 : ds.length = es.length := by
      have : V.int (xs.length : Int) = V.int (ys.length : Int) := of_decide_eq_true (by simpa using hc)
      have := V.int.inj this
      omega
    have e16 := e15.trans e6
    have sx := sq_ex e6 sx
    have sy := sq_ex e6 sy
    have ax := dpa_ex e6 ds _ ax
    have ay := dpa_ex e6 es _ ay
    refine s_ret (ev_op (ev_lenN (el_lcR1 (fun i => !sm (ds.getD i .none) (es.getD i .none)) (fun i => .int (i : Int)) (ea_cons (ev_lenS (ev_var rfl) sy) ea_nil) ⟨by omega, by omega⟩ (fun _ => rfl) (fun i H7 e7 hi => ?_) (fun i H7 e7 hi _ => ev_var rfl))) ev_c (rv_eq rfl)) fun H7 e7 => ?_
    · have hi2 : i < es.length := by omega
      obtain ⟨v1, g1, p1⟩ := dpa_at ax (show i < ds.length by omega)
      obtain ⟨v2, g2, p2⟩ := dpa_at ay hi2
      refine et_not (et_B (ev_call (vs := [v1, v2]) (ea_cons (ev_op (ev_var rfl) (ev_var rfl) (rv_ixS (sq_ex e7 sx) (atI_nat g1))) (ea_cons (ev_op (ev_var rfl) (ev_var rfl) (rv_ixS (sq_ex e7 sy) (atI_nat g2))) ea_nil)) fun H8 e8 Q8 q8 E8 => ?_))
      refine ⟨v1, v2, _, _, m, rfl, em, dp_ex (e7.trans e8) _ _ p1, dp_ex (e7.trans e8) _ _ p2, fitAll_mem gx ?_, fitAll_mem gy ?_, q8⟩
      · rw [List.getD_eq_getElem?_getD, List.getElem?_eq_getElem (show i < ds.length by omega)]
        exact List.getElem_mem _
      · rw [List.getD_eq_getElem?_getD, List.getElem?_eq_getElem hi2]
        exact List.getElem_mem _
    · have z : decide (V.int ((given (ys.length : Int).toNat (fun i => !sm (ds.getD i .none) (es.getD i .none)) (fun i => .int (i : Int))).length : Int) = V.int 0) = sm d e := by
        rw [es0, ← smAll_given h9 (fun i => .int (i : Int))]
        have h10 : (ys.length : Int).toNat = es.length := by omega
        rw [h10]
        have : ∀ k : Int, decide (V.int k = V.int 0) = decide (k = 0) := fun k => by
          rw [dec_int]
          exact (Bool.eq_iff_iff.mpr (by simp))
        exact this _
      rw [z]
      exact q H7 (e16.trans e7)
theorem ok_same {f : Addr} {fd : FuncData} (F : Fun K "_law_same" "_law_same" s_law_same f fd) (g : mg "_law_same" = some (.ref f)) (b : Binds K fd ["actual", "due"] []) (z_len : mg "len" = none) (z_isinstance : mg "isinstance" = none) (z_bool : mg "bool" = none) (z_int : mg "int" = none) (z_str : mg "str" = none)
    (z_list : mg "list" = none) (z_tuple : mg "tuple" = none) (z_range : mg "range" = none) : ∀ n, FnOk P w K mg base CX0 n f fd ["actual", "due"] (spSame K n)
  | 0 => ⟨fun _ _ _ _ ⟨_, _, _, _, _, _, h, _⟩ => (nomatch h), fun _ _ _ _ _ _ _ _ _ _ _ _ _ ⟨_, _, _, _, _, _, h, _⟩ => (nomatch h)⟩
  | n + 1 => same_step F z_len z_isinstance z_bool z_int z_str z_list z_tuple z_range ⟨f, fd, _, [], ok_same F g b z_len z_isinstance z_bool z_int z_str z_list z_tuple z_range n, g, F.kp, b, .nil⟩
end
/-! ### more of what evaluates to what -/
section
variable {K : PySem.W.Frag} {σ : L2.St} {H H' : Hp} {ta te tl : TE} {x y z v : V}
theorem el_is {xs ys : List V} (h : EvL te σ H xs) (e : xs = ys) : EvL te σ H ys := e ▸ h
theorem given_all (n : Nat) (v : Nat → V) : given n (fun _ => true) v = (List.range n).map v := by
  unfold given
  rw [List.filter_eq_self.mpr fun _ _ => rfl]
theorem et_yes : EvT tYes σ H true := fun H1 _ _ q => q H1 (Ex.refl H1)
/-- [e for k in range(n)] -/
theorem el_rng {tr : TA} {j : Nat} {vs : List Nat} {n : Nat} (v : Nat → V) (h : EvA tr σ H [.int (n : Int)]) (hn : n ≤ 40000) (hw : ∀ x, wipe ((wipe σ vs).set j (some x)) vs = wipe σ vs)
    (he : ∀ (i : Nat) H1, Ex H H1 → i < n → Ev te ((wipe σ vs).set j (some (.int (i : Int)))) H1 (v i)) : EvL (tLc (iRng1 tr) (gName j) tYes te vs) σ H ((List.range n).map v) :=
  el_is (el_lcR1 (fun _ => true) v h ⟨by omega, by omega⟩ hw (fun _ _ _ _ => et_yes) (fun i H1 e hi _ => he i H1 e (by omega))) (by rw [given_all, Int.toNat_natCast])
theorem ev_sumN {ns : List Int} (h : EvL te σ H (ns.map V.int)) : Ev (tCB (rSum K) (tCons te tNil)) σ H (.int ns.sum) := fun H1 e Q q =>
  h H1 e _ fun p H2 _ e2 h2 => ⟨p, ns, rfl, sq_of h2, q H2 e2⟩
def Cw2 (H : Hp) (n : Nat) (v : Nat → Nat → V) (D : Addr) (t : Nat) (H' : Hp) : Prop := H D = none ∧ Ex H H' ∧ H' D = some (.lst ((List.range t).map fun m => v (m / n) (m % n)))
/-- [e for i in range(w) for j in range(n)] -/
theorem el_rng2 {tr tr1 : TA} {j j1 : Nat} {vs vs1 : List Nat} {w n : Nat} (v : Nat → Nat → V) (h : EvA tr σ H [.int (w : Int)]) (hw0 : w ≤ 100) (hn0 : n ≤ 100)
    (hw : ∀ x, wipe ((wipe σ vs).set j (some x)) vs = wipe σ vs) (h1 : ∀ (i : Nat) H1, Ex H H1 → i < w → EvA tr1 ((wipe σ vs).set j (some (.int (i : Int)))) H1 [.int (n : Int)])
    (hw1 : ∀ x y, wipe ((wipe ((wipe σ vs).set j (some x)) vs1).set j1 (some y)) vs1 = wipe ((wipe σ vs).set j (some x)) vs1)
    (he : ∀ (i k : Nat) H1, Ex H H1 → i < w → k < n → Ev te ((wipe ((wipe σ vs).set j (some (.int (i : Int)))) vs1).set j1 (some (.int (k : Int)))) H1 (v i k)) :
    EvL (tLc2 (iRng1 tr) (gName j) tYes (iRng1 tr1) (gName j1) tYes te vs vs1) σ H ((List.range (w * n)).map fun m => v (m / n) (m % n)) := fun H0 e Q q => h H0 e _ fun H1 e1 => ⟨(w : Int), rfl, by omega, by omega, fun D hD => by
  have e01 := e.trans e1
  refine ⟨fun i m H' => m = w - i ∧ i ≤ w ∧ Cw2 H1 n v D (i * n) H', ⟨w, by omega, by omega, hD, Ex.new hD, ?_⟩, fun i m H' hW => ?_⟩
  · rw [upd_same, Nat.zero_mul]; rfl
  · obtain ⟨rfl, hi, p⟩ := hW
    by_cases hlt : i < w
    · refine .inr ⟨show i < (w : Int).toNat by omega, fun H2 => Cw2 H1 n v D ((i + 1) * n) H2, fun H2 p2 => ⟨w - (i + 1), by omega, rfl, hlt, p2⟩, fun x H2 y => ?_⟩
      obtain ⟨rfl, rfl⟩ := y
      have e0 : (0 : Int) + (i : Int) = (i : Int) := Int.zero_add _
      show wipe ((wipe σ vs).set j (some (.int ((0 : Int) + (i : Int))))) vs = wipe σ vs ∧ _
      refine ⟨hw _, ?_⟩
      rw [e0]
      refine h1 i _ (e01.trans p.2.1) hlt _ (Ex.refl _) _ fun H3 e3 => ⟨(n : Int), rfl, by omega, by omega, fun k m H4 => m = n - k ∧ k ≤ n ∧ Cw2 H1 n v D (i * n + k) H4, ⟨n, by omega, by omega, p.1, p.2.1.trans e3, e3 _ _ p.2.2⟩, fun k m H4 hW => ?_⟩
      obtain ⟨rfl, hk, p4⟩ := hW
      by_cases hlk : k < n
      · refine .inr ⟨show k < (n : Int).toNat by omega, fun H5 => Cw2 H1 n v D (i * n + (k + 1)) H5, fun H5 p5 => ⟨n - (k + 1), by omega, rfl, hlk, p5⟩, fun x H5 y => ?_⟩
        obtain ⟨rfl, rfl⟩ := y
        have e0 : (0 : Int) + (k : Int) = (k : Int) := Int.zero_add _
        show wipe ((wipe ((wipe σ vs).set j (some (.int (i : Int)))) vs1).set j1 (some (.int ((0 : Int) + (k : Int))))) vs1 = wipe ((wipe σ vs).set j (some (.int (i : Int)))) vs1 ∧ _
        refine ⟨hw1 _ _, ?_⟩
        rw [e0]
        show te _ _ _
        have hh : i * n + k < 10000 := by
          have : i * n ≤ 99 * 100 := Nat.mul_le_mul (by omega) hn0
          omega
        refine he i k _ (e01.trans p4.2.1) hlt hlk _ (Ex.refl _) _ fun H6 e6 => ⟨_, e6 _ _ p4.2.2, ?_, p4.1, Ex.mut (p4.2.1.trans e6) p4.1, ?_⟩
        · rw [List.length_map, List.length_range]
          exact sz_lt (by omega)
        · rw [upd_same, ← Nat.add_assoc, List.range_succ, List.map_append]
          have h1 : (i * n + k) / n = i := by rw [Nat.mul_comm, Nat.mul_add_div (by omega), Nat.div_eq_of_lt hlk, Nat.add_zero]
          have h2 : (i * n + k) % n = k := by rw [Nat.mul_comm, Nat.mul_add_mod, Nat.mod_eq_of_lt hlk]
          rw [List.map_singleton, h1, h2]
      · have : k = n := by omega
        subst this
        refine .inl ⟨show (k : Int).toNat ≤ k by omega, ?_⟩
        rw [Nat.succ_mul]
        exact p4
    · have : i = w := by omega
      subst this
      exact .inl ⟨show (i : Int).toNat ≤ i by omega, q D H' (fresh_back e1 p.1) (e1.trans p.2.1) p.2.2⟩⟩
/-- a comprehension over a list that is made on the way -/
theorem lc_new {xs : List V} {g : TG} {tt : TT} {vs : List Nat} {Q : VK} (h : EvL tl σ H xs)
    (k : ∀ L H1, H L = none → Ex H H1 → H1 L = some (.lst xs) → ∀ D, H1 D = none → ∃ W : Nat → Nat → Hp → Prop, (∃ m, W 0 m (upd H1 D (.lst []))) ∧ ∀ i m H, W i m H →
      ((Itl K L).stop i H ∧ Q (.ref D) H) ∨ ((Itl K L).go i H ∧ ∃ Nx : Hp → Prop, (∀ H', Nx H' → ∃ m', m' < m ∧ W (i + 1) m' H') ∧ ∀ x H', (Itl K L).yld i H x H' → g x (wipe σ vs) H' fun σ2 H2 => wipe σ2 vs = wipe σ vs ∧ tt σ2 H2 fun b H3 =>
        if b = true then te σ2 H3 fun y H4 => ∃ acc, H4 D = some (.lst acc) ∧ acc.length < sizeLine ∧ Nx (upd H4 D (.lst (acc ++ [y]))) else Nx H3)) : tLc (iList K tl) g tt te vs σ H Q :=
  h H (Ex.refl H) _ fun L H1 nL e1 hL => ⟨L, rfl, ⟨xs, sq_of hL⟩, k L H1 nL e1 hL⟩
theorem s_retR {D : Ends} (h : te σ H D.rt) : tRet te D σ H := h
end
/-! ### what evaluates to something that is so -/
section
variable {K : PySem.W.Frag} {σ : L2.St} {H H' : Hp} {ta te tx ty : TE} {v : V} {Φ Ψ : V → Hp → Prop} {E : XK}
def EvP (te : TE) (σ : L2.St) (H : Hp) (Φ : V → Hp → Prop) : Prop := ∀ H1, Ex H H1 → ∀ Q : VK, (∀ v H2, Ex H1 H2 → Φ v H2 → Q v H2) → te σ H1 Q
theorem EvP.mono (h : EvP te σ H Φ) (e : Ex H H') : EvP te σ H' Φ := fun H1 a Q q => h H1 (e.trans a) Q q
theorem EvP.imp (h : EvP te σ H Φ) (k : ∀ v H2, Ex H H2 → Φ v H2 → Ψ v H2) : EvP te σ H Ψ := fun H1 a Q q => h H1 a Q fun v H2 e f => q v H2 e (k v H2 (a.trans e) f)
theorem ep_ev (h : Ev te σ H v) (k : ∀ H2, Ex H H2 → Φ v H2) : EvP te σ H Φ := fun H1 a Q q => h H1 a Q fun H2 e => q v H2 e (k H2 (a.trans e))
theorem ep_el {xs : List V} (h : EvL te σ H xs) (k : ∀ p H2, Ex H H2 → H2 p = some (.lst xs) → Φ (.ref p) H2) : EvP te σ H Φ := fun H1 a Q q => h H1 a Q fun p H2 _ e hp => q _ H2 e (k p H2 (a.trans e) hp)
theorem ep_call1 {sp : Sp} (h : EvP tx σ H Φ) (k : ∀ v H2, Ex H H2 → Φ v H2 → ∀ Q : VK, (∀ w H3, Ex H2 H3 → Ψ w H3 → Q w H3) → sp [v] H2 Q E) : EvP (tCall sp [] E (tCons tx tNil)) σ H Ψ := fun H1 a Q q =>
  h H1 a _ fun v H2 e f => k v H2 (a.trans e) f Q fun w H3 e3 g => q w H3 (e.trans e3) g
/-- data -/
def DP (K : PySem.W.Frag) (d : PyData) (v : V) (H : Hp) : Prop := Dp K H v d
theorem ep_dp {d : PyData} (h : Ev te σ H v) (hd : Dp K H v d) : EvP te σ H (DP K d) := ep_ev h fun _ e => dp_ex e d v hd
theorem ev_same {d : PyData} {n : Nat} (hx : EvP tx σ H (DP K d)) (hy : EvP ty σ H (DP K d)) (hf : fit d n = true) : Ev (tCall (spSame K (n + 1)) [] E (tCons tx (tCons ty tNil))) σ H (.bl true) := fun H1 a Q q =>
  hx H1 a _ fun x H2 e2 dx => hy H2 (a.trans e2) _ fun y H3 e3 dy => ⟨x, y, d, d, n, rfl, rfl, dp_ex e3 d x dx, dy, hf, hf, fun H4 e4 => by
    rw [sm_refl d n hf]
    exact q H4 ((e2.trans e3).trans e4)⟩
/-- if not same(..): return False -/
theorem q_same {D : Ends} {d : PyData} {n : Nat} {tr tz : TS} (hx : EvP tx σ H (DP K d)) (hy : EvP ty σ H (DP K d)) (hf : fit d n = true) (k : ∀ H1, Ex H H1 → tz D σ H1) :
    tSeq (tIfS (tNot (tB (tCall (spSame K (n + 1)) [] E (tCons tx (tCons ty tNil))))) tr tNext) tz D σ H :=
  q_when (et_not (et_B (ev_same hx hy hf))) (fun h => (nomatch h)) fun _ H1 e => k H1 e
/-- a list of ints -/
def IL (K : PySem.W.Frag) (l : List Int) (v : V) (H : Hp) : Prop := ∃ a, v = .ref a ∧ SqL K H a (l.map V.int)
abbrev LI (l : List Int) : PyData := .list (l.map PyData.int)
theorem ep_il {a : Addr} {l : List Int} (h : Ev te σ H (.ref a)) (hS : SqL K H a (l.map V.int)) : EvP te σ H (IL K l) := ep_ev h fun _ e => ⟨a, rfl, ex_l e hS⟩
theorem il_el {l : List Int} (h : EvL te σ H (l.map V.int)) : EvP te σ H (IL K l) := ep_el h fun p H2 _ hp => ⟨p, rfl, sq_of hp⟩
theorem il_dp {l : List Int} (h : EvP te σ H (IL K l)) : EvP te σ H (DP K (LI l)) := h.imp fun v H2 _ f => by
  obtain ⟨a, rfl, hS⟩ := f
  exact .lst hS (dpa_ints l)
theorem fit_LI {l : List Int} {n : Nat} (h : l.length ≤ 10000) : fit (LI l) (n + 1) = true := by
  rw [fit, fit_ints, Bool.and_true, decide_eq_true_eq, List.length_map]
  exact h
theorem q_run {i : Nat} {tz : TS} {D : Ends} (h : te σ H fun v H1 => tz D (σ.set i (some v)) H1) : tSeq (tAsg te (gName i)) tz D σ H := h
end
/-! ### statements -/
inductive Stm where
  | set (k : Nat) (r : List Int)
  | carry (r : List Int)
  | keep (cs : List Nat) (b : List Stm)
  | either (a b : List Stm)
  | again (b : List Stm)
  | call (p : Nat) (r : List Int) (a b : List Stm)
  | fin (w : Nat)
mutual
def toD : Stm → PyData
  | .set k r => .tuple [.str "set", .int (k : Int), LI r]
  | .carry r => .tuple [.str "carry", LI r]
  | .keep cs b => .tuple [.str "keep", LI (cs.map (Nat.cast : Nat → Int)), .list (toDs b)]
  | .either a b => .tuple [.str "either", .list (toDs a), .list (toDs b)]
  | .again b => .tuple [.str "again", .list (toDs b)]
  | .call p r a b => .tuple [.str "call", .int (p : Int), LI r, .list [.list (toDs a), .list (toDs b)]]
  | .fin w => .tuple [.str "end", .int (w : Int)]
def toDs : List Stm → List PyData
  | [] => []
  | s :: r => toD s :: toDs r
end
mutual
/-- how many statements, all levels counted -/
def cnt : Stm → Nat
  | .set _ _ => 1
  | .carry _ => 1
  | .keep _ b => 1 + cntL b
  | .either a b => 1 + cntL a + cntL b
  | .again b => 1 + cntL b
  | .call _ _ a b => 1 + cntL a + cntL b
  | .fin _ => 1
def cntL : List Stm → Nat
  | [] => 0
  | s :: r => cnt s + cntL r
end
def okR (c : Nat) (r : List Int) : Prop := r.length = c + 2 ∧ ∀ x ∈ r, -9 ≤ x ∧ x ≤ 9
/-- ascending, each below c -/
def asc (c : Nat) (cs : List Nat) : Prop := cs.Pairwise (· < ·) ∧ ∀ k ∈ cs, k < c
mutual
/-- a statement of a book with c cells and m procedures, at a level -/
def okS (c m : Nat) : Stm → Nat → Prop
  | .set k r, _ => k < c ∧ okR c r
  | .carry r, _ => okR c r
  | .keep cs b, lv => lv < 3 ∧ asc c cs ∧ b.length ≤ 8 ∧ okL c m b (lv + 1)
  | .either a b, lv => lv < 3 ∧ a.length ≤ 8 ∧ okL c m a (lv + 1) ∧ b.length ≤ 8 ∧ okL c m b (lv + 1)
  | .again b, lv => lv < 3 ∧ b.length ≤ 8 ∧ okL c m b (lv + 1)
  | .call p r a b, lv => lv < 3 ∧ p < m ∧ okR c r ∧ a.length ≤ 8 ∧ okL c m a (lv + 1) ∧ b.length ≤ 8 ∧ okL c m b (lv + 1)
  | .fin w, _ => w < 2
def okL (c m : Nat) : List Stm → Nat → Prop
  | [], _ => True
  | s :: r, lv => okS c m s lv ∧ okL c m r lv
end
theorem okL_app {c m lv : Nat} : ∀ {a b : List Stm}, okL c m a lv → okL c m b lv → okL c m (a ++ b) lv
  | [], _, _, h => h
  | s :: r, b, h, g => by
    rw [okL] at h
    rw [List.cons_append, okL]
    exact ⟨h.1, okL_app h.2 g⟩
theorem cntL_app : ∀ (a b : List Stm), cntL (a ++ b) = cntL a + cntL b
  | [], b => by rw [List.nil_append, cntL, Nat.zero_add]
  | s :: r, b => by rw [List.cons_append, cntL, cntL, cntL_app r b, Nat.add_assoc]
theorem toDs_app : ∀ (a b : List Stm), toDs (a ++ b) = toDs a ++ toDs b
  | [], b => by rw [List.nil_append, toDs, List.nil_append]
  | s :: r, b => by rw [List.cons_append, toDs, toDs, toDs_app r b, List.cons_append]
theorem toDs_map : ∀ l : List Stm, toDs l = l.map toD
  | [] => by rw [toDs]; rfl
  | s :: r => by rw [toDs, toDs_map r]; rfl
theorem toDs_len (l : List Stm) : (toDs l).length = l.length := by rw [toDs_map, List.length_map]
theorem okL_mem {c m lv : Nat} : ∀ {l : List Stm} {s : Stm}, okL c m l lv → s ∈ l → okS c m s lv
  | t :: r, s, h, hm => by
    rw [okL] at h
    rcases List.mem_cons.mp hm with rfl | hm
    · exact h.1
    · exact okL_mem h.2 hm
/-! ### data whose lists and tuples stand where N says -/
mutual
inductive Dq (N : Addr → Prop) (H : Hp) : V → PyData → Prop
  | non : Dq N H .non .none
  | bl (b : Bool) : Dq N H (.bl b) (.bool b)
  | int (i : Int) : Dq N H (.int i) (.int i)
  | str (x : Str) : Dq N H (.str x) (.str x)
  | lst {a : Addr} {xs : List V} {ds : List PyData} : N a → H a = some (.lst xs) → DqAll N H xs ds → Dq N H (.ref a) (.list ds)
  | tup {a : Addr} {xs : List V} {ds : List PyData} : N a → H a = some (.tup xs) → DqAll N H xs ds → Dq N H (.ref a) (.tuple ds)
inductive DqAll (N : Addr → Prop) (H : Hp) : List V → List PyData → Prop
  | nil : DqAll N H [] []
  | cons {v : V} {vs : List V} {d : PyData} {ds : List PyData} : Dq N H v d → DqAll N H vs ds → DqAll N H (v :: vs) (d :: ds)
end
section
variable {N N' : Addr → Prop} {H H' : Hp} {K : PySem.W.Frag}
mutual
theorem dq_to (h : ∀ a, N a → N' a) (k : ∀ a o, N a → H a = some o → H' a = some o) : ∀ (d : PyData) (v : V), Dq N H v d → Dq N' H' v d
  | .none, _, x => by cases x; exact .non
  | .bool _, _, x => by cases x; exact .bl _
  | .int _, _, x => by cases x; exact .int _
  | .str _, _, x => by cases x; exact .str _
  | .list ds, _, x => by
    cases x with
    | lst n s a => exact .lst (h _ n) (k _ _ n s) (dqa_to h k ds _ a)
  | .tuple ds, _, x => by
    cases x with
    | tup n s a => exact .tup (h _ n) (k _ _ n s) (dqa_to h k ds _ a)
  | .dict _, _, x => by cases x
theorem dqa_to (h : ∀ a, N a → N' a) (k : ∀ a o, N a → H a = some o → H' a = some o) : ∀ (ds : List PyData) (vs : List V), DqAll N H vs ds → DqAll N' H' vs ds
  | [], _, x => by cases x; exact .nil
  | d :: ds, _, x => by
    cases x with
    | cons a b => exact .cons (dq_to h k d _ a) (dqa_to h k ds _ b)
end
mutual
theorem dq_dp : ∀ (d : PyData) (v : V), Dq N H v d → Dp K H v d
  | .none, _, x => by cases x; exact .non
  | .bool _, _, x => by cases x; exact .bl _
  | .int _, _, x => by cases x; exact .int _
  | .str _, _, x => by cases x; exact .str _
  | .list ds, _, x => by
    cases x with
    | lst n s a => exact .lst (sq_of s) (dqa_dpa ds _ a)
  | .tuple ds, _, x => by
    cases x with
    | tup n s a => exact .tup (st_of s) (dqa_dpa ds _ a)
  | .dict _, _, x => by cases x
theorem dqa_dpa : ∀ (ds : List PyData) (vs : List V), DqAll N H vs ds → DpAll K H vs ds
  | [], _, x => by cases x; exact .nil
  | d :: ds, _, x => by
    cases x with
    | cons a b => exact .cons (dq_dp d _ a) (dqa_dpa ds _ b)
end
theorem dqa_app : ∀ {vs ws : List V} {ds es : List PyData}, DqAll N H vs ds → DqAll N H ws es → DqAll N H (vs ++ ws) (ds ++ es)
  | _, _, _, _, .nil, h => h
  | _, _, _, _, .cons a b, h => .cons a (dqa_app b h)
theorem dqa_len : ∀ {vs : List V} {ds : List PyData}, DqAll N H vs ds → vs.length = ds.length
  | _, _, .nil => rfl
  | _, _, .cons _ b => by rw [List.length_cons, List.length_cons, dqa_len b]
theorem dqa_ints : ∀ ns : List Int, DqAll N H (ns.map V.int) (ns.map PyData.int)
  | [] => .nil
  | n :: r => .cons (.int n) (dqa_ints r)
theorem dq_LI {a : Addr} {l : List Int} (n : N a) (h : H a = some (.lst (l.map V.int))) : Dq N H (.ref a) (LI l) := .lst n h (dqa_ints l)
end
/-- new since H -/
def New (H : Hp) (a : Addr) : Prop := H a = none
/-- all but p and wd as it was -/
def Oth2 (p wd : Addr) (H H' : Hp) : Prop := ∀ a o, a ≠ p → a ≠ wd → H a = some o → H' a = some o
theorem Oth2.refl (p wd : Addr) (H : Hp) : Oth2 p wd H H := fun _ _ _ _ h => h
theorem Oth2.trans {p wd : Addr} {H H1 H2 : Hp} (a : Oth2 p wd H H1) (b : Oth2 p wd H1 H2) : Oth2 p wd H H2 := fun c o n m h => b c o n m (a c o n m h)
theorem Oth2.of {p wd : Addr} {H H1 : Hp} (a : Ex H H1) : Oth2 p wd H H1 := fun c o _ _ h => a c o h
theorem Oth2.one {p wd : Addr} {H H1 : Hp} (a : Oth p H H1) : Oth2 p wd H H1 := fun c o n _ h => a c o n h
theorem new_back {p : Addr} {H H1 : Hp} {a : Addr} (o : Oth p H H1) (hp : ∃ u, H1 p = some u) (h : New H1 a) : New H a := by
  obtain ⟨u, hu⟩ := hp
  have hap : a ≠ p := fun z => by rw [z] at h; unfold New at h; rw [hu] at h; cases h
  unfold New at *
  cases e : H a with
  | none => rfl
  | some w => rw [o _ _ hap e] at h; cases h
theorem new_ne {H : Hp} {a p : Addr} (h : New H a) (hp : ∃ u, H p = some u) : a ≠ p := fun z => by
  obtain ⟨u, hu⟩ := hp
  unfold New at h
  rw [z, hu] at h; cases h
theorem new_back2 {p wd : Addr} {H H1 : Hp} {a : Addr} (o : Oth2 p wd H H1) (hp : ∃ u, H1 p = some u) (hw : ∃ u, H1 wd = some u) (h : New H1 a) : New H a := by
  have h1 := new_ne h hp
  have h2 := new_ne h hw
  unfold New at *
  cases e : H a with
  | none => rfl
  | some w => rw [o _ _ h1 h2 e] at h; cases h
/-- the counts of a body that is being made -/
structure World3 (H : Hp) (wd q : Addr) (c m room : Nat) : Prop where
  hw : H wd = some (.lst [.int (c : Int), .int (m : Int), .int (room : Int)])
  ne : wd ≠ q
theorem World3.nep {H : Hp} {wd p q : Addr} {c m room : Nat} (w : World3 H wd q c m room) (x : Pool H p q) : wd ≠ p := by
  obtain ⟨i, b, t, s, cs, x⟩ := x
  exact ne_of w.hw x.hp fun e => by
    have := congrArg List.length (HO.lst.inj e)
    cases this
theorem World3.one {H H' : Hp} {wd p q : Addr} {c m room : Nat} (w : World3 H wd q c m room) (x : Pool H p q) (o : Oth p H H') : World3 H' wd q c m room := ⟨o _ _ (w.nep x) w.hw, w.ne⟩
theorem World3.ex {H H' : Hp} {wd q : Addr} {c m room : Nat} (w : World3 H wd q c m room) (o : Ex H H') : World3 H' wd q c m room := ⟨o _ _ w.hw, w.ne⟩
/-! ### copies -/
section
variable {K : PySem.W.Frag} {σ : L2.St} {H : Hp} {te tl : TE}
theorem cb_1 {r : List V → Hp → VK → Prop} {Q : VK} (h : te σ H fun x H1 => r [x] H1 Q) : tCB r (tCons te tNil) σ H Q := h
/-- te gives a copy of the item -/
def CpAt (te : TE) (σ : L2.St) (H : Hp) (d : PyData) : Prop := ∀ H1, Ex H H1 → ∀ Q : VK, (∀ v' H2, Ex H1 H2 → Dq (New H1) H2 v' d → Q v' H2) → te σ H1 Q
def CpOut (H1 : Hp) (ds : List PyData) (Q : VK) : Prop := ∀ D ys H2, H1 D = none → Ex H1 H2 → H2 D = some (.lst ys) → DqAll (fun a => New H1 a ∧ a ≠ D) H2 ys ds → Q (.ref D) H2
theorem new_ex {H H1 : Hp} {a : Addr} (e : Ex H H1) (h : New H1 a) : New H a := fresh_back e h
theorem dqa_at {N : Addr → Prop} : ∀ {vs : List V} {ds : List PyData} {i : Nat} {v : V}, DqAll N H vs ds → vs[i]? = some v → ∃ d, ds[i]? = some d ∧ Dq N H v d
  | _, _, i, v, .nil, h => by simp at h
  | _, _, 0, v, .cons a _, h => ⟨_, rfl, by have := Option.some.inj h; subst this; exact a⟩
  | _, _, i + 1, v, .cons _ b, h => by
    obtain ⟨d, h1, h2⟩ := dqa_at (i := i) b (by simpa using h)
    exact ⟨d, by simpa using h1, h2⟩
theorem dpa_at2 : ∀ {vs : List V} {ds : List PyData} {i : Nat} {v : V}, DpAll K H vs ds → vs[i]? = some v → ∃ d, ds[i]? = some d ∧ Dp K H v d
  | _, _, i, v, .nil, h => by simp at h
  | _, _, 0, v, .cons a _, h => ⟨_, rfl, by have := Option.some.inj h; subst this; exact a⟩
  | _, _, i + 1, v, .cons _ b, h => by
    obtain ⟨d, h1, h2⟩ := dpa_at2 (i := i) b (by simpa using h)
    exact ⟨d, by simpa using h1, h2⟩
/-- one turn -/
theorem copy_turn {H1 H' : Hp} {D : Addr} {ys : List V} {ds : List PyData} {i : Nat} {d : PyData} {σ' : L2.St} {Nx : Hp → Prop} (hD : H1 D = none) (e : Ex H1 H') (hD' : H' D = some (.lst ys)) (hd : DqAll (fun a => New H1 a ∧ a ≠ D) H' ys (ds.take i)) (hl : ds.length ≤ 10000) (hi : ds[i]? = some d)
    (hc : CpAt te σ' H' d) (k : ∀ ys2 H2, Ex H1 H2 → H2 D = some (.lst ys2) → DqAll (fun a => New H1 a ∧ a ≠ D) H2 ys2 (ds.take (i + 1)) → Nx H2) :
    te σ' H' fun y H4 => ∃ acc, H4 D = some (.lst acc) ∧ acc.length < sizeLine ∧ Nx (upd H4 D (.lst (acc ++ [y]))) := by
  refine hc H' (Ex.refl _) _ fun v' H2 e2 dq => ⟨ys, e2 _ _ hD', ?_, k (ys ++ [v']) _ ((e.trans e2).mut hD) upd_same ?_⟩
  · rw [dqa_len hd, List.length_take]; exact sz_lt (by omega)
  · rw [List.take_add_one, hi]
    refine dqa_app (dqa_to (fun _ h => h) (fun a u n ha => by rw [upd_ne n.2]; exact e2 _ _ ha) _ _ hd) (.cons (dq_to (fun a n => ⟨new_ex e n, new_ne n ⟨_, hD'⟩⟩) (fun a u n ha => by rw [upd_ne (new_ne n ⟨_, hD'⟩)]; exact ha) _ _ dq) .nil)
theorem lc_copyL {a : Addr} {xs : List V} {ds : List PyData} {j : Nat} {vs : List Nat} (h : Ev tl σ H (.ref a)) (hs : SqL K H a xs) (hlen : xs.length = ds.length) (hl : ds.length ≤ 10000) (hw : ∀ x, wipe ((wipe σ vs).set j (some x)) vs = wipe σ vs)
    (hc : ∀ (i : Nat) (v : V) (d : PyData), xs[i]? = some v → ds[i]? = some d → CpAt te ((wipe σ vs).set j (some v)) H d) {Q : VK} (k : CpOut H ds Q) : tLc (iList K tl) (gName j) tYes te vs σ H Q :=
  h H (Ex.refl H) _ fun H1 e1 => ⟨a, rfl, ⟨xs, ex_l e1 hs⟩, fun D hD =>
    lc_list (xs := xs) (fun i H' => ∃ ys, Ex H1 H' ∧ H' D = some (.lst ys) ∧ DqAll (fun a => New H1 a ∧ a ≠ D) H' ys (ds.take i)) ⟨[], Ex.new hD, upd_same, .nil⟩ (fun i H' _ p => by
        obtain ⟨ys, e, _⟩ := p
        exact ex_l (e1.trans e) hs) (fun i x H' hi p => ⟨hw x, by
        obtain ⟨ys, e, hd, dq⟩ := p
        have hi2 : i < ds.length := by have := (List.getElem?_eq_some_iff.mp hi).1; omega
        have hdi := List.getElem?_eq_getElem hi2
        show te _ _ _
        exact copy_turn (Nx := fun H' => ∃ ys, Ex H1 H' ∧ H' D = some (.lst ys) ∧ DqAll (fun a => New H1 a ∧ a ≠ D) H' ys (ds.take (i + 1))) hD e hd dq hl hdi (fun H2 e2 => hc i x _ hi hdi H2 ((e1.trans e).trans e2)) fun ys2 H2 a b c => ⟨ys2, a, b, c⟩⟩)
      (fun H' p => by
        obtain ⟨ys, e, hd, dq⟩ := p
        rw [List.take_of_length_le (by omega)] at dq
        exact k D ys H' (fresh_back e1 hD) (e1.trans e) hd (dqa_to (fun a n => ⟨new_ex e1 n.1, n.2⟩) (fun _ _ _ h => h) _ _ dq))⟩
theorem lc_copyT {a : Addr} {xs : List V} {ds : List PyData} {j : Nat} {vs : List Nat} (h : Ev tl σ H (.ref a)) (hs : SqT K H a xs) (hlen : xs.length = ds.length) (hl : ds.length ≤ 10000) (hw : ∀ x, wipe ((wipe σ vs).set j (some x)) vs = wipe σ vs)
    (hc : ∀ (i : Nat) (v : V) (d : PyData), xs[i]? = some v → ds[i]? = some d → CpAt te ((wipe σ vs).set j (some v)) H d) {Q : VK} (k : CpOut H ds Q) : tLc (iTup K tl) (gName j) tYes te vs σ H Q :=
  h H (Ex.refl H) _ fun H1 e1 => ⟨a, rfl, ⟨xs, ex_t e1 hs⟩, fun D hD =>
    lc_tup (xs := xs) (fun i H' => ∃ ys, Ex H1 H' ∧ H' D = some (.lst ys) ∧ DqAll (fun a => New H1 a ∧ a ≠ D) H' ys (ds.take i)) ⟨[], Ex.new hD, upd_same, .nil⟩ (fun i H' _ p => by
        obtain ⟨ys, e, _⟩ := p
        exact ex_t (e1.trans e) hs) (fun i x H' hi p => ⟨hw x, by
        obtain ⟨ys, e, hd, dq⟩ := p
        have hi2 : i < ds.length := by have := (List.getElem?_eq_some_iff.mp hi).1; omega
        have hdi := List.getElem?_eq_getElem hi2
        show te _ _ _
        exact copy_turn (Nx := fun H' => ∃ ys, Ex H1 H' ∧ H' D = some (.lst ys) ∧ DqAll (fun a => New H1 a ∧ a ≠ D) H' ys (ds.take (i + 1))) hD e hd dq hl hdi (fun H2 e2 => hc i x _ hi hdi H2 ((e1.trans e).trans e2)) fun ys2 H2 a b c => ⟨ys2, a, b, c⟩⟩)
      (fun H' p => by
        obtain ⟨ys, e, hd, dq⟩ := p
        rw [List.take_of_length_le (by omega)] at dq
        exact k D ys H' (fresh_back e1 hD) (e1.trans e) hd (dqa_to (fun a n => ⟨new_ex e1 n.1, n.2⟩) (fun _ _ _ h => h) _ _ dq))⟩
/-- a copy of data at most n - 1 deep -/
def spCopy (K : PySem.W.Frag) (n : Nat) : Sp := fun vs H Q _ => ∃ (v : V) (d : PyData) (m : Nat), vs = [v] ∧ n = m + 1 ∧ Dp K H v d ∧ fit d m = true ∧ ∀ v' H', Ex H H' → Dq (New H) H' v' d → Q v' H'
theorem cp_call {E : XK} {ti : TE} {n m : Nat} {v : V} {d : PyData} (hn : n = m + 1) (h : Ev ti σ H v) (hd : Dp K H v d) (hf : fit d m = true) : CpAt (tCall (spCopy K n) [] E (tCons ti tNil)) σ H d := fun H1 e Q q =>
  h H1 e _ fun H2 e2 => ⟨v, d, m, rfl, hn, dp_ex (e.trans e2) d v hd, hf, fun v' H3 e3 dq => q v' H3 (e2.trans e3) (dq_to (fun a n => new_ex e2 n) (fun _ _ _ h => h) _ _ dq)⟩
theorem flat_dq {v : V} {d : PyData} {N : Addr → Prop} (h : Dp K H v d) (h1 : isa d "list" = false) (h2 : isa d "tuple" = false) : Dq N H v d := by
  rw [isa_list] at h1
  rw [isa_tuple] at h2
  cases h with
  | non => exact .non
  | bl b => exact .bl b
  | int i => exact .int i
  | str x => exact .str x
  | lst _ _ => cases h1
  | tup _ _ => cases h2
end
abbrev scopied : Stmt := topS 1
theorem sccopied : FnScope ["value", "item", "key", "worth"] ["value"] (defScope scopied) := ⟨rfl, rfl, rfl, by decide +kernel, rfl, by decide +kernel, by decide +kernel⟩
section
variable {P : Program} {w : World} {K : PySem.W.Frag} {mg : Str → Option Value} {base : Heap}
theorem isa_list_t {H : Hp} {v : V} {d : PyData} (h : Dp K H v d) (hl : isa d "list" = true) : ∃ a xs ds, v = .ref a ∧ d = .list ds ∧ SqL K H a xs ∧ DpAll K H xs ds := by
  rw [isa_list] at hl
  cases h with
  | lst s a => exact ⟨_, _, _, rfl, rfl, s, a⟩
  | _ => cases hl
theorem isa_tuple_t {H : Hp} {v : V} {d : PyData} (h : Dp K H v d) (hl : isa d "tuple" = true) : ∃ a xs ds, v = .ref a ∧ d = .tuple ds ∧ SqT K H a xs ∧ DpAll K H xs ds := by
  rw [isa_tuple] at hl
  cases h with
  | tup s a => exact ⟨_, _, _, rfl, rfl, s, a⟩
  | _ => cases hl
theorem kd_all : ∀ t ∈ ["NoneType", "bool", "int", "str", "list", "tuple"], kitB t "dict" = some false := by
  decide +kernel
theorem kd_dict {H : Hp} {v : V} {d : PyData} (h : Dp K H v d) : kitB (tyn d) "dict" = some false := by
  refine kd_all _ ?_
  cases h <;> simp [tyn]
theorem copied_step {f : Addr} {fd : FuncData} {n : Nat} (F : Fun K "copied" "copied" scopied f fd) (z_isinstance : mg "isinstance" = none) (z_list : mg "list" = none) (z_tuple : mg "tuple" = none) (z_dict : mg "dict" = none) (Ccopied : Cal P w K mg base n "copied" (spCopy K n) []) :
    FnOk P w K mg base CX0 (n + 1) f fd ["value"] (spCopy K (n + 1)) := by
  have sc := sccopied
  refine F.ok sc (fun vs H Q E h => ?_) (fun cdv A outer s H vs Q E hr h => ?_)
  · obtain ⟨v, d, m, rfl, _⟩ := h
    rfl
  · obtain ⟨v, d, n', rfl, en, hv, hf, q⟩ := h
    obtain rfl : n' = n := by omega
    refine ⟨_, (pss_cons (ps_if (pt_val (pe_callB call_isi (by rfl) z_isinstance (by decide +kernel) (pa_cons (pv 0) (pa_cons (pe_bltn (v := .ty "list") (by rfl) z_list (by decide +kernel) rfl) pa_nil))))
      (pss_one (ps_ret (pe_lc (own := [("item", 1)]) (by rfl) sc.nd (pi_list (pv 0)) (blkOk_by (own := [("item", 1)]) (N := ["value", "item", "key", "worth"]) (sc := defScope scopied) (by decide +kernel)) (fun _ _ _ _ _ => (pg_name (i := 1) sc.nd rfl (by first | exact Or.inl rfl | exact Or.inr rfl))) (fun _ _ _ _ _ => pts_nil) (fun _ _ _ _ _ => (pe_c Ccopied hr (by omega) (by rfl) (pa_cons (pv 1) pa_nil))))))
      pss_nil)
      (pss_cons (ps_if (pt_val (pe_callB call_isi (by rfl) z_isinstance (by decide +kernel) (pa_cons (pv 0) (pa_cons (pe_bltn (v := .ty "tuple") (by rfl) z_tuple (by decide +kernel) rfl) pa_nil))))
      (pss_one (ps_ret (pe_callTy call_tuple_of (by rfl) z_tuple (by decide +kernel) (pa_cons (pe_lc (own := [("item", 1)]) (by rfl) sc.nd (pi_tup (pv 0)) (blkOk_by (own := [("item", 1)]) (N := ["value", "item", "key", "worth"]) (sc := defScope scopied) (by decide +kernel)) (fun _ _ _ _ _ => (pg_name (i := 1) sc.nd rfl (by first | exact Or.inl rfl | exact Or.inr rfl))) (fun _ _ _ _ _ => pts_nil) (fun _ _ _ _ _ => (pe_c Ccopied hr (by omega) (by rfl) (pa_cons (pv 1) pa_nil)))) pa_nil))))
      pss_nil)
      (pss_cons (ps_if (pt_val (pe_callB call_isi (by rfl) z_isinstance (by decide +kernel) (pa_cons (pv 0) (pa_cons (pe_bltn (v := .ty "dict") (by rfl) z_dict (by decide +kernel) rfl) pa_nil))))
      (pss_one ps_never)
      pss_nil)
      (pss_one (ps_ret (pv 0)))))), ?_⟩
    have kd := kitB_isa d
    refine q_when (et_B (ev_isi hv (ev_var rfl) kd.2.2.2.1)) (fun hb H1 e1 => ?_) (fun hb H1 e1 => ?_)
    · obtain ⟨a, xs, ds, rfl, rfl, hs, hx⟩ := isa_list_t hv hb
      obtain ⟨m, em, lx, gx⟩ := fit_list hf
      have hs1 := ex_l e1 hs
      have hx1 := dpa_ex e1 ds _ hx
      have lxs := dpa_len hx1
      refine s_retR (lc_copyL (ev_var rfl) hs1 lxs lx (fun _ => rfl) (fun i v d hv hd => ?_) fun D ys H2 nD e2 hD dq => ?_)
      · obtain ⟨d', hd', p⟩ := dpa_at2 hx1 hv
        have : d' = d := Option.some.inj (hd'.symm.trans hd)
        subst this
        exact cp_call em (ev_var rfl) p (fitAll_mem gx (List.mem_of_getElem? hd))
      · exact q _ _ (e1.trans e2) (.lst (new_ex e1 nD) hD (dqa_to (fun a n => new_ex e1 n.1) (fun _ _ _ h => h) _ _ dq))
    refine q_when (et_B (ev_isi (dp_ex e1 _ _ hv) (ev_var rfl) kd.2.2.2.2)) (fun hc H2 e2 => ?_) (fun hc H2 e2 => ?_)
    · have e12 := e1.trans e2
      obtain ⟨a, xs, ds, rfl, rfl, hs, hx⟩ := isa_tuple_t hv hc
      obtain ⟨m, em, lx, gx⟩ := fit_tuple hf
      have hs1 := ex_t e12 hs
      have hx1 := dpa_ex e12 ds _ hx
      have lxs := dpa_len hx1
      refine s_retR (cb_1 ?_)
      refine lc_copyT (ev_var rfl) hs1 lxs lx (fun _ => rfl) (fun i v d hv hd => ?_) fun D ys H3 nD e3 hD dq => ?_
      · obtain ⟨d', hd', p⟩ := dpa_at2 hx1 hv
        have : d' = d := Option.some.inj (hd'.symm.trans hd)
        subst this
        exact cp_call em (ev_var rfl) p (fitAll_mem gx (List.mem_of_getElem? hd))
      · refine ⟨D, ys, rfl, .inl ⟨sq_of hD, fun T nT => ?_⟩⟩
        have eT := Ex.new (o := .tup ys) nT
        exact q _ _ ((e12.trans e3).trans eT) (.tup (new_ex (e12.trans e3) nT) upd_same (dqa_to (fun a n => new_ex e12 n.1) (fun a u _ ha => eT _ _ ha) _ _ dq))
    · have e12 := e1.trans e2
      refine q_when (b := false) (et_B (ev_isi (dp_ex e12 _ _ hv) (ev_var rfl) (kd_dict hv))) (fun h => (nomatch h)) fun _ H3 e3 => ?_
      have e13 := e12.trans e3
      refine s_ret (ev_var rfl) fun H4 e4 => q _ _ (e13.trans e4) (flat_dq (dp_ex (e13.trans e4) _ _ hv) hb hc)
theorem ok_copied {f : Addr} {fd : FuncData} (F : Fun K "copied" "copied" scopied f fd) (g : mg "copied" = some (.ref f)) (b : Binds K fd ["value"] []) (z_isinstance : mg "isinstance" = none) (z_list : mg "list" = none) (z_tuple : mg "tuple" = none) (z_dict : mg "dict" = none) : ∀ n, FnOk P w K mg base CX0 n f fd ["value"] (spCopy K n)
  | 0 => ⟨fun _ _ _ _ ⟨_, _, _, _, h, _⟩ => (nomatch h), fun _ _ _ _ _ _ _ _ _ _ _ _ _ ⟨_, _, _, _, h, _⟩ => (nomatch h)⟩
  | n + 1 => copied_step F z_isinstance z_list z_tuple z_dict ⟨f, fd, _, [], ok_copied F g b z_isinstance z_list z_tuple z_dict n, g, F.kp, b, .nil⟩
end

/-! ### a heap without one object -/
def Ct (p : Addr) (H : Hp) : Hp := fun a => if a = p then none else H a
section
variable {K : PySem.W.Frag} {H H' Hb : Hp} {p a : Addr} {σ : L2.St} {ta tb te tl : TE}
theorem ct_self : Ct p H p = none := by rw [Ct, if_pos rfl]
theorem ct_o {o : HO} (h : H a = some o) (n : a ≠ p) : Ct p H a = some o := by rw [Ct, if_neg n]; exact h
theorem ct_ne {o : HO} (h : Ct p H a = some o) : a ≠ p ∧ H a = some o := by
  by_cases e : a = p
  · rw [Ct, if_pos e] at h; cases h
  · rw [Ct, if_neg e] at h; exact ⟨e, h⟩
theorem ct_ex : Ex (Ct p H) H := fun a o h => (ct_ne h).2
theorem ct_of (e : Oth p H H') : Ex (Ct p H) H' := fun a o h => e a o (ct_ne h).1 (ct_ne h).2
theorem ct_oth (e : Oth p H H') : Ex (Ct p H) (Ct p H') := fun a o h => ct_o (e a o (ct_ne h).1 (ct_ne h).2) (ct_ne h).1
theorem ct_mono (e : Ex H H') : Ex (Ct p H) (Ct p H') := ct_oth (.of e)
theorem ct_base (h : Ex Hb H) (hp : Hb p = none) : Ex Hb (Ct p H) := fun a o ha => ct_o (h a o ha) fun z => by rw [z, hp] at ha; cases ha
theorem ex_oth (h : Ex Hb H) (hp : Hb p = none) (o : Oth p H H') : Ex Hb H' := fun a u ha => o a u (fun z => by rw [z, hp] at ha; cases ha) (h a u ha)
theorem ct_rd {u : HO} {l : List V} (hp : H p = some (.lst l)) (h : Rd H a u) (hu : ∀ l, u ≠ .lst l) : Rd (Ct p H) a u := by
  rcases h with h | ⟨o, h⟩
  · exact .inl (ct_o h fun z => by rw [z, hp] at h; exact hu _ (Option.some.inj h).symm)
  · exact .inr ⟨o, ct_o h fun z => by rw [z, hp] at h; cases h⟩
theorem ct_t {xs l : List V} (hp : H p = some (.lst l)) (h : SqT K H a xs) : SqT K (Ct p H) a xs := by
  rcases h with h | h
  · exact .inl (ct_rd hp h fun l e => by cases e)
  · exact .inr h
/-! ### arguments of one kind -/
def EvW (Φ : V → Hp → Prop) (ta : TA) (σ : L2.St) (H : Hp) (n : Nat) : Prop := ∀ H1, Ex H H1 → ∀ Q : List V → Hp → Prop, (∀ vs H2, Ex H1 H2 → vs.length = n → (∀ v ∈ vs, Φ v H2) → Q vs H2) → ta σ H1 Q
theorem ew_nil {Φ : V → Hp → Prop} : EvW Φ tNil σ H 0 := fun H1 _ _ q => q [] H1 (Ex.refl H1) rfl fun _ h => by cases h
theorem ew_cons {Φ : V → Hp → Prop} {tr : TA} {n : Nat} (mono : ∀ v H H', Ex H H' → Φ v H → Φ v H') (h : EvP te σ H Φ) (hr : EvW Φ tr σ H n) : EvW Φ (tCons te tr) σ H (n + 1) := fun H1 e _ q =>
  h H1 e _ fun v H2 e2 f => hr H2 (e.trans e2) _ fun vs H3 e3 hl hv => q (v :: vs) H3 (e2.trans e3) (by rw [List.length_cons, hl]) fun w hw => by
    rcases List.mem_cons.mp hw with rfl | hw
    · exact mono _ _ _ e3 f
    · exact hv w hw
def TupIs (K : PySem.W.Frag) (xs : List V) (v : V) (H : Hp) : Prop := ∃ a, v = .ref a ∧ SqT K H a xs
theorem ti_var {i : Nat} {xs : List V} (h : σ[i]? = some (some (.ref a))) (hs : SqT K H a xs) : EvP (tVar i) σ H (TupIs K xs) := ep_ev (ev_var h) fun H2 e => ⟨a, rfl, ex_t e hs⟩
theorem ti_tup {tr : TA} {vs : List V} (h : EvA tr σ H vs) (hl : vs.length ≤ 100000) : EvP (tTup tr) σ H (TupIs K vs) := fun H1 e _ q =>
  h H1 e _ fun H2 e2 => ⟨sz_of hl, fun T hT => q _ _ (e2.trans (Ex.new hT)) ⟨T, rfl, st_of upd_same⟩⟩
theorem ti_cat {tr : TA} {xs ys : List V} (h1 : EvP ta σ H (TupIs K xs)) (h : EvA tr σ H ys) (hy : ys ≠ []) (l1 : xs.length ≤ 1000) (l2 : ys.length ≤ 1000) : EvP (tOp (rCatA K) ta (tTup tr)) σ H (TupIs K (xs ++ ys)) := fun H1 e Q q =>
  h1 H1 e _ fun v H2 e2 ⟨a, hv, ha⟩ => h H2 (e.trans e2) _ fun H3 e3 => ⟨sz_of (by omega), fun T hT => by
    have eT := Ex.new (o := .tup ys) hT
    refine ⟨a, T, xs, ys, hv, rfl, ex_t (e3.trans eT) ha, st_of upd_same, sz_of (by omega), fun h0 => ?_, fun _ h0 => absurd h0 hy, fun _ _ T2 n2 => ?_⟩
    · refine q _ _ ((e2.trans e3).trans eT) ⟨T, rfl, ?_⟩
      rw [h0, List.nil_append]
      exact st_of upd_same
    · exact q _ _ (((e2.trans e3).trans eT).trans (Ex.new n2)) ⟨T2, rfl, st_of upd_same⟩⟩
theorem cut_init (xs : List V) (h : xs ≠ []) : cutV xs none (some ((xs.length : Int) - 1)) = xs.take (xs.length - 1) := by
  have h0 : 0 < xs.length := List.length_pos_iff.mpr h
  unfold cutV
  rw [HT.sIx_none, show ((xs.length : Int) - 1) = ((xs.length - 1 : Nat) : Int) by omega, show HT.sIx xs.length xs.length (some ((xs.length - 1 : Nat) : Int)) = min (xs.length - 1) xs.length from HT.sIx_nat xs.length xs.length _]
  show (xs.drop 0).take (min (xs.length - 1) xs.length - 0) = _
  rw [List.drop_zero, Nat.sub_zero, Nat.min_eq_left (by omega)]
theorem ti_init {i : Nat} {xs : List V} (h : σ[i]? = some (some (.ref a))) (hs : SqT K H a xs) (hx : xs ≠ []) : EvP (tSl (rSlT K) (tVar i) tNoPart (tPart (tOp (rI0 fun i j => .int (i - j)) (tCB (rLenS K) (tCons (tVar i) tNil)) (tC (.int 1))))) σ H (TupIs K (xs.take (xs.length - 1))) := fun H1 e Q q => by
  have h0 : 0 < xs.length := List.length_pos_iff.mpr hx
  refine ⟨.ref a, h, ?_⟩
  refine ev_op (ev_lenS (ev_var h) (.inr (ex_t e hs))) ev_c rv_I0 H1 (Ex.refl H1) _ fun H2 e2 => ?_
  refine ⟨(xs.length : Int) - 1, rfl, a, xs, rfl, ex_t (e.trans e2) hs, fun ⟨_, z⟩ => ?_, fun T nT => ?_⟩
  · rw [show ((xs.length : Int) - 1) = ((xs.length - 1 : Nat) : Int) by omega, show HT.sIx xs.length xs.length (some ((xs.length - 1 : Nat) : Int)) = min (xs.length - 1) xs.length from HT.sIx_nat xs.length xs.length _] at z
    omega
  · refine q _ _ (e2.trans (Ex.new nT)) ⟨T, rfl, ?_⟩
    rw [← cut_init xs hx]
    exact st_of upd_same
end
/-! ### a heap without what W holds -/
open Classical in
noncomputable def Cw (W : Addr → Prop) (H : Hp) : Hp := fun a => if W a then none else H a
section
variable {K : PySem.W.Frag} {σ : L2.St} {H H' Hb : Hp} {W : Addr → Prop} {p a : Addr} {ta tb te : TE}
theorem cw_o {o : HO} (h : H a = some o) (n : ¬ W a) : Cw W H a = some o := by rw [Cw, if_neg n]; exact h
theorem cw_ne {o : HO} (h : Cw W H a = some o) : ¬ W a ∧ H a = some o := by
  by_cases e : W a
  · rw [Cw, if_pos e] at h; cases h
  · rw [Cw, if_neg e] at h; exact ⟨e, h⟩
theorem cw_ex : Ex (Cw W H) H := fun a o h => (cw_ne h).2
theorem cw_mono (e : Ex H H') : Ex (Cw W H) (Cw W H') := fun a o h => cw_o (e a o (cw_ne h).2) (cw_ne h).1
/-- all that W holds is there -/
def Has (W : Addr → Prop) (H : Hp) : Prop := ∀ a, W a → ∃ u, H a = some u
theorem has_ex (e : Ex H H') (h : Has W H) : Has W H' := fun a w => (h a w).imp fun _ x => e _ _ x
theorem has_new (h : Has W H) (n : H a = none) : ¬ W a := fun w => by obtain ⟨u, hu⟩ := h a w; rw [n] at hu; cases hu
def DPw (K : PySem.W.Frag) (W : Addr → Prop) (d : PyData) (v : V) (H : Hp) : Prop := Dp K (Cw W H) v d
theorem dpw_ex {d : PyData} {v : V} (e : Ex H H') (h : DPw K W d v H) : DPw K W d v H' := dp_ex (cw_mono e) _ _ h
theorem cw_oth (wp : W p) (o : Oth p H H') : Ex (Cw W H) (Cw W H') := fun a u h => cw_o (o a u (fun z => (cw_ne h).1 (z ▸ wp)) (cw_ne h).2) (cw_ne h).1
theorem dpw_oth {d : PyData} {v : V} (wp : W p) (o : Oth p H H') (h : DPw K W d v H) : DPw K W d v H' := dp_ex (cw_oth wp o) _ _ h
/-- the pool, and all that W holds -/
structure PW (W : Addr → Prop) (H : Hp) (p q : Addr) : Prop where
  pool : Pool H p q
  has : Has W H
  wp : W p
theorem PW.isP {q : Addr} (x : PW W H p q) : Has W H := x.has
theorem PW.ex {q : Addr} (x : PW W H p q) (e : Ex H H') : PW W H' p q := ⟨x.pool.ex e, has_ex e x.has, x.wp⟩
theorem PW.oth {q : Addr} (x : PW W H p q) (o : Oth p H H') (y : Pool H' p q) : PW W H' p q := ⟨y, fun a w => by
  by_cases z : a = p
  · rw [z]; exact y.isP
  · exact (x.has a w).imp fun _ h => o _ _ z h, x.wp⟩
end
/-! ### menus -/
section
variable {P : Program} {w : World} {K : PySem.W.Frag} {mg : Str → Option Value} {base : Heap} {σ : L2.St} {H H' : Hp} {p a : Addr} {W : Addr → Prop} {te ta tb : TE} {Φ : V → Hp → Prop}
def EvDc (K : PySem.W.Frag) (W : Addr → Prop) (ta : TA) (σ : L2.St) (H : Hp) (ds : List PyData) : Prop := ∀ H1, Ex H H1 → ∀ Q : List V → Hp → Prop, (∀ vs H2, Ex H1 H2 → DpAll K (Cw W H2) vs ds → Q vs H2) → ta σ H1 Q
theorem edc_nil : EvDc K W tNil σ H [] := fun H1 _ _ q => q [] H1 (Ex.refl H1) .nil
theorem edc_cons {tr : TA} {d : PyData} {ds : List PyData} (h : EvP te σ H (DPw K W d)) (hr : EvDc K W tr σ H ds) : EvDc K W (tCons te tr) σ H (d :: ds) := fun H1 e _ q =>
  h H1 e _ fun v H2 e2 f => hr H2 (e.trans e2) _ fun vs H3 e3 g => q (v :: vs) H3 (e2.trans e3) (.cons (dpw_ex e3 f) g)
theorem epc_lst {tr : TA} {ds : List PyData} (hp : Has W H) (h : EvDc K W tr σ H ds) (hl : ds.length ≤ 100000) : EvP (tLst tr) σ H (DPw K W (.list ds)) := fun H1 e _ q =>
  h H1 e _ fun vs H2 e2 g => ⟨sz_of (by rw [dpa_len g]; exact hl), fun a ha => q _ _ (e2.trans (Ex.new ha)) (.lst (sq_of (cw_o upd_same (has_new (has_ex (e.trans e2) hp) ha))) (dpa_ex (cw_mono (Ex.new ha)) _ _ g))⟩
theorem epc_tup {tr : TA} {ds : List PyData} (hp : Has W H) (h : EvDc K W tr σ H ds) (hl : ds.length ≤ 100000) : EvP (tTup tr) σ H (DPw K W (.tuple ds)) := fun H1 e _ q =>
  h H1 e _ fun vs H2 e2 g => ⟨sz_of (by rw [dpa_len g]; exact hl), fun a ha => q _ _ (e2.trans (Ex.new ha)) (.tup (st_of (cw_o upd_same (has_new (has_ex (e.trans e2) hp) ha))) (dpa_ex (cw_mono (Ex.new ha)) _ _ g))⟩
theorem epc_ev {v : V} {d : PyData} (h : Ev te σ H v) (hd : Dp K (Cw W H) v d) : EvP te σ H (DPw K W d) := ep_ev h fun _ e => dp_ex (cw_mono e) _ _ hd
/-! a list of things -/
def EvM (Φ : V → Hp → Prop) (W : Addr → Prop) (te : TE) (σ : L2.St) (H : Hp) (n : Nat) : Prop := ∀ H1, Ex H H1 → ∀ Q : VK, (∀ L vs H2, Ex H1 H2 → H2 L = some (.lst vs) → ¬ W L → vs.length = n → (∀ v ∈ vs, Φ v H2) → Q (.ref L) H2) → te σ H1 Q
theorem em_lst {tr : TA} {n : Nat} (mono : ∀ v H H', Ex H H' → Φ v H → Φ v H') (hp : Has W H) (h : EvW Φ tr σ H n) (hn : n ≤ 1000) : EvM Φ W (tLst tr) σ H n := fun H1 e Q q =>
  h H1 e _ fun vs H2 e2 hl hv => ⟨sz_of (by omega), fun L nL => q L vs _ (e2.trans (Ex.new nL)) upd_same (has_new (has_ex (e.trans e2) hp) nL) hl fun v hv2 => mono _ _ _ (Ex.new nL) (hv v hv2)⟩
theorem em_var {i : Nat} {L : Addr} {vs : List V} (mono : ∀ v H H', Ex H H' → Φ v H → Φ v H') (h : σ[i]? = some (some (.ref L))) (hL : H L = some (.lst vs)) (hp : ¬ W L) (hv : ∀ v ∈ vs, Φ v H) : EvM Φ W (tVar i) σ H vs.length := fun H1 e Q q =>
  ⟨.ref L, h, q L vs H1 (Ex.refl _) (e _ _ hL) hp rfl fun v h2 => mono _ _ _ e (hv v h2)⟩
theorem em_varN {i n : Nat} {L : Addr} {vs : List V} (hn : vs.length = n) (mono : ∀ v H H', Ex H H' → Φ v H → Φ v H') (h : σ[i]? = some (some (.ref L))) (hL : H L = some (.lst vs)) (hp : ¬ W L) (hv : ∀ v ∈ vs, Φ v H) : EvM Φ W (tVar i) σ H n := by
  subst hn
  exact em_var mono h hL hp hv
theorem em_cat {n m : Nat} (mono : ∀ v H H', Ex H H' → Φ v H → Φ v H') (hp : Has W H) (h1 : EvM Φ W ta σ H n) (h2 : EvM Φ W tb σ H m) (hn : n + m ≤ 1000) : EvM Φ W (tOp rCat ta tb) σ H (n + m) := fun H1 e Q q =>
  h1 H1 e _ fun L vs H2 e2 hL _ l1 v1 => h2 H2 (e.trans e2) _ fun M ws H3 e3 hM _ l2 v2 => ⟨L, M, vs, ws, rfl, rfl, e3 _ _ hL, hM, sz_of (by omega), fun R nR =>
    q R (vs ++ ws) _ ((e2.trans e3).trans (Ex.new nR)) upd_same (has_new (has_ex ((e.trans e2).trans e3) hp) nR) (by rw [List.length_append, l1, l2]) fun v hv => by
      rcases List.mem_append.mp hv with hv | hv
      · exact mono _ _ _ (e3.trans (Ex.new nR)) (v1 v hv)
      · exact mono _ _ _ (Ex.new nR) (v2 v hv)⟩
theorem menuM {E : XK} {q0 : Addr} {n ip : Nat} (hσ : σ[ip]? = some (some (.ref p))) (hM : EvM Φ W te σ H n) (hn : 0 < n) (hn2 : n ≤ 1000) (x : PW W H p q0) (mono : ∀ v H H', Oth p H H' → Φ v H → Φ v H') {Q : VK} (k : ∀ v H', Oth p H H' → PW W H' p q0 → Φ v H' → Q v H') :
    tOp (rIxL K) te (tCall spDraw [] E (tCons (tVar ip) (tCons (tC (.int (n : Int))) tNil))) σ H Q := by
  refine hM H (Ex.refl H) _ fun L vs H2 e2 hL hLp hl hv => ?_
  have x2 := x.ex e2
  refine ⟨.ref p, hσ, p, q0, (n : Int), rfl, by omega, by rw [Int.natAbs_natCast]; exact Nat.lt_of_le_of_lt hn2 (by decide), x2.pool, fun r H3 r0 rn o3 x3p => ?_⟩
  have x3 := x2.oth o3 x3p
  have hLp : L ≠ p := fun z => hLp (z ▸ x.wp)
  have hr : r.toNat < vs.length := by omega
  refine ⟨L, vs, r, vs[r.toNat], rfl, rfl, sq_of (o3 _ _ hLp hL), at_of (j := r.toNat) (by omega) (List.getElem?_eq_getElem hr), ?_⟩
  exact k _ H3 ((Oth.of e2).trans o3) x3 (mono _ _ _ o3 (hv _ (List.getElem_mem hr)))
theorem el_catL {xs ys : List V} (h1 : EvL ta σ H xs) (h2 : EvL tb σ H ys) (hl : xs.length + ys.length ≤ 100000) : EvL (tOp rCat ta tb) σ H (xs ++ ys) := fun H1 e Q q =>
  h1 H1 e _ fun L H2 nL e2 hL => h2 H2 (e.trans e2) _ fun M H3 nM e3 hM => ⟨L, M, xs, ys, rfl, rfl, e3 _ _ hL, hM, sz_of hl, fun R nR => q R _ (fresh_back (e2.trans e3) nR) ((e2.trans e3).trans (Ex.new nR)) upd_same⟩
theorem el_catV {i : Nat} {L : Addr} {xs ys : List V} (h : σ[i]? = some (some (.ref L))) (hL : H L = some (.lst xs)) (h2 : EvL tb σ H ys) (hl : xs.length + ys.length ≤ 100000) : EvL (tOp rCat (tVar i) tb) σ H (xs ++ ys) := fun H1 e Q q =>
  ⟨.ref L, h, h2 H1 e _ fun M H3 nM e3 hM => ⟨L, M, xs, ys, rfl, rfl, e3 _ _ (e _ _ hL), hM, sz_of hl, fun R nR => q R _ (fresh_back e3 nR) (e3.trans (Ex.new nR)) upd_same⟩⟩
theorem dpa_appJ : ∀ {xs ys : List V} {ds es : List PyData}, DpAll K H xs ds → DpAll K H ys es → DpAll K H (xs ++ ys) (ds ++ es)
  | _, _, _, _, .nil, h => h
  | _, _, _, _, .cons a b, h => .cons a (dpa_appJ b h)
theorem epc_elD {xs : List V} {ds : List PyData} (hp : Has W H) (h : EvL te σ H xs) (hd : ∀ H : Hp, DpAll K H xs ds) : EvP te σ H (DPw K W (.list ds)) := fun H1 e Q q =>
  h H1 e _ fun L H2 nL e2 hL => q _ _ e2 (.lst (sq_of (cw_o hL (has_new (has_ex e hp) nL))) (hd _))
theorem ep_rowT {i : Nat} {R : Addr} {zs : List Int} (hp : Has W H) (h : σ[i]? = some (some (.ref R))) (hR : H R = some (.lst (zs.map V.int))) : EvP (tCB (fun xs H Q => ∃ p ys, xs = [.ref p] ∧ ((SqL K H p ys ∧ ∀ l, H l = none → Q (.ref l) (upd H l (.tup ys))) ∨ (SqT K H p ys ∧ Q (.ref p) H))) (tCons (tVar i) tNil)) σ H (DPw K W (.tuple (zs.map PyData.int))) := fun H1 e Q q =>
  ⟨.ref R, h, R, _, rfl, .inl ⟨sq_of (e _ _ hR), fun T nT => q _ _ (Ex.new nT) (.tup (st_of (cw_o upd_same (has_new (has_ex e hp) nT))) (dpa_ints zs))⟩⟩
end
/-! ### errors held as values -/
/-- at a: an error of the class at C with these fields -/
def ErrAt (H : Hp) (a C : Addr) (fs : List (Str × V)) : Prop := (fs = [] ∧ H a = some (exo a C none)) ∨ ∃ dx, H a = some (exo a C (some dx)) ∧ H dx = some (exd dx fs)
theorem errAt_ex {H H' : Hp} {a C : Addr} {fs : List (Str × V)} (e : Ex H H') (h : ErrAt H a C fs) : ErrAt H' a C fs := h.imp (fun ⟨x, y⟩ => ⟨x, e _ _ y⟩) fun ⟨d, x, y⟩ => ⟨d, e _ _ x, e _ _ y⟩
/-- what the class must say -/
structure ErrC (K : PySem.W.Frag) (D : Addr) : Prop where
  cl : (PySem.W.clsIn K D).isSome = true
  ga : PySem.W.findIn K (.ref D) "__getattribute__" = some (some (.builtin "BaseException.__getattribute__"))
  gg : PySem.W.findIn K (.ref D) "__getattr__" = some none
  sb : PySem.W.subIn K (.ref D) (.type "BaseException") = some true
  hd : PySem.W.hasDictIn K D = true
  ca : PySem.W.findIn K (.ref D) "__class__" = some (some (.builtin "object.__class__"))
  cg : PySem.W.specialIn K (.builtin "object.__class__") "__get__" = some (some (.builtin "getset_descriptor.__get__"))
  ct : PySem.W.takesIn K (.builtin "object.__class__") = some true
  cm : PySem.W.mroIn K D (.type "object") = some true
def errB (K : PySem.W.Frag) (D : Addr) : Bool :=
  [(PySem.W.clsIn K D).isSome, decide (PySem.W.findIn K (.ref D) "__getattribute__" = some (some (.builtin "BaseException.__getattribute__"))), decide (PySem.W.findIn K (.ref D) "__getattr__" = some none),
    decide (PySem.W.subIn K (.ref D) (.type "BaseException") = some true), PySem.W.hasDictIn K D, decide (PySem.W.findIn K (.ref D) "__class__" = some (some (.builtin "object.__class__"))),
    decide (PySem.W.specialIn K (.builtin "object.__class__") "__get__" = some (some (.builtin "getset_descriptor.__get__"))), decide (PySem.W.takesIn K (.builtin "object.__class__") = some true), decide (PySem.W.mroIn K D (.type "object") = some true)].all id
theorem errB_ok {K : PySem.W.Frag} {D : Addr} (h : errB K D = true) : ErrC K D := by
  simp only [errB, List.all_cons, List.all_nil, id, Bool.and_true, Bool.and_eq_true, decide_eq_true_eq] at h
  obtain ⟨h1, h2, h3, h4, h5, h6, h7, h8, h9⟩ := h
  exact ⟨h1, h2, h3, h4, h5, h6, h7, h8, h9⟩
section
variable {X : Cx} {pins : List (Addr × Obj)} {σ : L2.St} {H : Hp} {s : Shared}
theorem err_inst {a C : Addr} {fs : List (Str × V)} (I : Inv X pins σ H s) (h : ErrAt H a C fs) : ∃ oe od, PySem.W.InstAt s.heap a oe C od ∧ ∀ n v, fs.lookup n = some v → ∃ o u, od = some o ∧ PySem.W.lookIn n o = some (some u) ∧ RelV v u := by
  rcases h with ⟨rfl, ha⟩ | ⟨dx, ha, hd⟩
  · obtain ⟨t, ho⟩ := exo_at I.hok ha
    exact ⟨_, none, ⟨ho, rfl, rfl, trivial⟩, fun n v z => by cases z⟩
  · obtain ⟨t, ho⟩ := exo_at I.hok ha
    obtain ⟨mA, hn, hr⟩ := exd_at I.hok hd
    obtain ⟨od, hod, hl⟩ := lookIn_ns hn
    refine ⟨_, some od, ⟨ho, rfl, rfl, hod⟩, fun n v z => ?_⟩
    obtain ⟨u, hu, ru⟩ := RelO.some_of (v := v) (o := mA n) (by rw [← z]; exact hr n)
    exact ⟨od, u, rfl, by rw [hl, hu], ru⟩
/-- X() of a class without an __init__ -/
theorem pe_err0 {C : Addr} {bmB : List Value} {B newId initId : String} {x : Str} {p pos : Pos} (F : ExcBaseFacts B newId initId bmB) (q : PySem.W.excIn X.K C bmB newId = true) (gC : X.mg x = some (.ref C))
    (kC : PySem.W.keepIn X.K (.ref C) = true) (hg : Gl X x) (hdb : (x == ("__debug__" : Str)) = false := by decide) : PE X (.Call (.Name x p) [] [] pos) (fun _ H Q => ∀ a, H a = none → Q (.ref a) (upd H a (exo a C none))) := by
  refine ⟨fun pins s σ H Q I h => wpAny_Call_Name_kw (ld_glob I hg gC (PySem.W.callWith_K0 I.kIn kC ?_) hdb)⟩
  obtain ⟨bm, N, nm, qn, bs, hdct, sn, sub, ab, col, dd, k0, k1, k2, k3, k5, mN, hC, hN, hni, T⟩ := exc_obj I.kIn q
  refine wpAny_call_exc_subT F T hC hN hni (fun h' e hm => ?_) (Nat.zero_le _)
  have hn : H e = none := I.hok.gone hm.new
  obtain ⟨t, ht, _, _⟩ := hm.there
  exact ⟨.ref e, upd H e (exo e C none), I.laidN hm.keeps hm.new hn (exo_ok ht), rfl, h e hn⟩
def rIsX (K : PySem.W.Frag) : List V → Hp → VK → Prop := fun xs H Q => ∃ (a D : Addr) (fs : List (Str × V)) (c : V) (cv : Value) (b : Bool), xs = [.ref a, c] ∧ ErrAt H a D fs ∧ ErrC K D ∧ (∀ u, RelV c u → u = cv) ∧ PySem.W.kitOne K (.ref D) cv = some b ∧ Q (.bl b) H
/-- isinstance of such an error -/
theorem call_isX : CallR X (.builtin "isinstance") (rIsX X.K) := by
  intro pins s σ H xs us Q I r h
  obtain ⟨a, D, fs, c, cv, b, rfl, he, T, hc, hk, q⟩ := h
  obtain ⟨oe, od, J, _⟩ := err_inst I he
  match us, r with
  | [_, u], .cons rx (.cons rc .nil) =>
    cases rx
    cases hc u rc
    exact PySem.W.kia_one (PySem.W.kitx_exc T.cl T.ga T.gg T.sb T.ca T.cg T.ct T.cm) I.kIn J hk (fun z => nomatch z) fun tk => ⟨.bl b, H, I.kept (t' := tk) fun _ _ z => z, rfl, q⟩
/-- its field -/
def tErrF (K : PySem.W.Frag) (n : Str) (te : TE) : TE := fun σ H Q => te σ H fun x H1 => ∃ (a C : Addr) (fs : List (Str × V)) (v : V), x = .ref a ∧ ErrAt H1 a C fs ∧ ErrC K C ∧ PySem.W.findIn K (.ref C) n = some none ∧ fs.lookup n = some v ∧ Q v H1
theorem pe_errF {e : Expr} {te : TE} {pos : Pos} {n : Str} (he : PE X e te) (hb : attributeBase e n X.env (eval e X.env) = eval e X.env := by rfl) : PE X (.Attribute e n pos) (tErrF X.K n te) := by
  refine ⟨fun pins s σ H Q I h => attr_of hb (thn (he.run pins s σ H _ I h) fun u s1 hh => ?_)⟩
  obtain ⟨x, H1, I1, rx, a, C, fs, v, rfl, hE, T, hno, hl, q⟩ := hh
  cases rx
  obtain ⟨oe, od, J, hf⟩ := err_inst I1 hE
  obtain ⟨o, w, rfl, hw, rw_⟩ := hf n v hl
  exact PySem.HandSPX.exc_get I1.kIn J T.ga T.gg T.sb (PySem.W.findObj_own T.hd hno rfl hw) (handed_of rw_) ⟨v, H1, I1.tok _, rw_, q⟩
/-- X(..) of a class with an __init__ of its own -/
def tErrI (C : Addr) (sp : Sp) (ta : TA) : TE := fun σ H Q => ta σ H fun vs H1 => vs.length ≤ 1000 ∧ ∀ a, H1 a = none → sp (.ref a :: vs) (upd H1 a (exo a C none)) (fun v H2 => v = .non ∧ Q (.ref a) H2) (fun _ _ _ => False)
theorem pe_errI {CX : CXT} {x : Str} {e : Expr} {es : List Expr} {ta : TA} {p pos : Pos} {C fI : Addr} {k : Nat} {fd : FuncData} {ps : List Str} {sp : Sp} (T : OexC X.K C) (iC : PySem.W.findIn X.K (.ref C) "__init__" = some (some (.ref fI))) (tI : PySem.W.typeIn X.K (.ref fI) = some (.type "function"))
    (F : FnOk X.prog X.w X.K X.mg X.base CX k fI fd ps sp) (hr : Room (k + 1) X.A) (hb : Binds X.K fd ps []) (hx : Passes CX X (fun _ _ _ => False)) (hg : Gl X x) (hm : X.mg x = some (.ref C)) (ha : PA X (e :: es) ta)
    (hdb : (x == ("__debug__" : Str)) = false := by decide) (he : starEach (e :: es) X.env = (false, eval e X.env) :: starEach es X.env := by rfl) (hpl : (backTo pos (starEach es X.env)).any (·.1) = false := by rfl) :
    PE X (.Call (.Name x p) (e :: es) [] pos) (tErrI C sp ta) := by
  refine ⟨fun pins s σ H Q I h => wpAny_Call_Name_kw (ld_glob I hg hm (PySem.W.callWith_K (h₀ := X.base) I.ok.mod.kin T.kC (thn (ha.run pos pins s σ H _ I h) fun us s1 ⟨vs, H1, I1, r1, hz, q1⟩ => ⟨I1.kIn, ?_⟩) he hpl) hdb)⟩
  obtain ⟨nm, q, N, bs, bm, sn, sub, ab, col, dd, k0, k1, k2, k3, k5, hC, hbm⟩ := T.cls
  obtain ⟨hp, g, dr, tk, os⟩ := s1
  have hf : H1 (hp.objs.size + 1) = none := I1.hok.fresh (Nat.le_succ _)
  have q2 := q1 _ hf
  have hnew : ((hp.push (PySem.W.kdv_tup us)).push (PySem.HandSPX.excO C hp.objs.size)).get? (hp.objs.size + 1) = some (PySem.HandSPX.excO C hp.objs.size) := by heap_get
  have J : Inv X pins σ (upd H1 (hp.objs.size + 1) (exo (hp.objs.size + 1) C none)) ⟨(hp.push (PySem.W.kdv_tup us)).push (PySem.HandSPX.excO C hp.objs.size), g, dr, tk, os⟩ :=
    I1.laid (t' := tk) (a := hp.objs.size + 1) (fun b o z => Heap.get?_push_of_some _ (Heap.get?_push_of_some _ z)) (Nat.le_succ _) (exo_ok hnew)
  have r2 : Vals (V.ref (hp.objs.size + 1) :: vs) (Value.ref (hp.objs.size + 1) :: us) := .cons rfl r1
  have ln : (Value.ref (hp.objs.size + 1) :: us).length = ps.length := r2.length.symm.trans (F.len _ _ _ _ q2)
  have hus : us.length ≤ sizeLine := by rw [← Paired.length r1, sizeLine_eq]; omega
  have body := F.run _ X.stack _ _ ⟨Value.ref (hp.objs.size + 1) :: us, []⟩ (Value.ref (hp.objs.size + 1) :: us) _ _ (fun _ _ _ => False) (hr.make C us []) (J.env0.make C us []) (by have := hb _ (Value.ref (hp.objs.size + 1) :: us) J.kIn (by rw [List.append_nil]; exact ln); rw [List.append_nil] at this; exact this) r2 q2
  show wpAny _ _ (call (.ref C) us) _ _ _
  refine wpAny_call (PySem.HandSPX.call_own PySem.F.excBase_ValueError (fun Y => PySem.HandSPX.refsVE_contains Y bm hbm) (I1.kIn _ _ hC) (PySem.W.looks_findIn I1.kIn iC) (fun self => PySem.W.bind_fn I1.kIn self tI) hus (codeAny_mono body fun r s' ho => ?_))
  match r, ho with
  | .error er, ho => exact hx pins σ _ _ er s' J ho
  | .ok (.ret u), ho =>
    obtain ⟨v, H', J', rv, ev, q3⟩ := J.after ho
    subst ev
    exact ⟨rv, V.ref (hp.objs.size + 1), H', J', rfl, q3⟩
end
/-! ### the fields of errors -/
abbrev sNoBook___init__ : Stmt := inClass (topS 25) 0
theorem scNoBook___init__ : FnScope ["self", "procedure", "path"] ["self", "procedure", "path"] (defScope sNoBook___init__) := ⟨rfl, rfl, rfl, by decide +kernel, rfl, by decide +kernel, by decide +kernel⟩
abbrev sNoRun___init__ : Stmt := inClass (topS 26) 0
theorem scNoRun___init__ : FnScope ["self", "index"] ["self", "index"] (defScope sNoRun___init__) := ⟨rfl, rfl, rfl, by decide +kernel, rfl, by decide +kernel, by decide +kernel⟩
abbrev sNoHistory___init__ : Stmt := inClass (topS 27) 0
theorem scNoHistory___init__ : FnScope ["self", "index"] ["self", "index"] (defScope sNoHistory___init__) := ⟨rfl, rfl, rfl, by decide +kernel, rfl, by decide +kernel, by decide +kernel⟩
abbrev sNoVectors___init__ : Stmt := inClass (topS 28) 0
theorem scNoVectors___init__ : FnScope ["self", "index"] ["self", "index"] (defScope sNoVectors___init__) := ⟨rfl, rfl, rfl, by decide +kernel, rfl, by decide +kernel, by decide +kernel⟩
abbrev sNoEquations___init__ : Stmt := inClass (topS 29) 0
theorem scNoEquations___init__ : FnScope ["self", "index"] ["self", "index"] (defScope sNoEquations___init__) := ⟨rfl, rfl, rfl, by decide +kernel, rfl, by decide +kernel, by decide +kernel⟩
abbrev sNoEquation___init__ : Stmt := inClass (topS 30) 0
theorem scNoEquation___init__ : FnScope ["self", "place"] ["self", "place"] (defScope sNoEquation___init__) := ⟨rfl, rfl, rfl, by decide +kernel, rfl, by decide +kernel, by decide +kernel⟩
abbrev sNoSender___init__ : Stmt := inClass (topS 31) 0
theorem scNoSender___init__ : FnScope ["self", "state"] ["self", "state"] (defScope sNoSender___init__) := ⟨rfl, rfl, rfl, by decide +kernel, rfl, by decide +kernel, by decide +kernel⟩
abbrev sTooMany___init__ : Stmt := inClass (topS 32) 0
theorem scTooMany___init__ : FnScope ["self", "many"] ["self", "many"] (defScope sTooMany___init__) := ⟨rfl, rfl, rfl, by decide +kernel, rfl, by decide +kernel, by decide +kernel⟩
abbrev sNoText___init__ : Stmt := inClass (topS 33) 0
theorem scNoText___init__ : FnScope ["self", "line"] ["self", "line"] (defScope sNoText___init__) := ⟨rfl, rfl, rfl, by decide +kernel, rfl, by decide +kernel, by decide +kernel⟩
section
variable {P : Program} {w : World} {K : PySem.W.Frag} {mg : Str → Option Value} {base : Heap} {σ : L2.St} {H H' : Hp}
def spE1 (K : PySem.W.Frag) (C : Addr) (n : Str) : Sp := fun vs H Q _ => ∃ (a : Addr) (v : V) (d : PyData), vs = [.ref a, v] ∧ H a = some (exo a C none) ∧ Dp K H v d ∧ fit d 14 = true ∧
  ∀ (dx : Addr) (v' : V) (H' : Hp), Oth a H H' → H' a = some (exo a C (some dx)) → H' dx = some (exd dx [(n, v')]) → Dq (New H) H' v' d → Q .non H'
def spE2 (K : PySem.W.Frag) (C : Addr) (n m : Str) : Sp := fun vs H Q _ => ∃ (a : Addr) (v u : V) (d e : PyData) (Hb : Hp), vs = [.ref a, v, u] ∧ H a = some (exo a C none) ∧ Hb a = none ∧ Ex Hb H ∧ Dp K Hb v d ∧ Dp K Hb u e ∧ fit d 14 = true ∧ fit e 14 = true ∧
  ∀ (dx : Addr) (v' u' : V) (H' : Hp), Oth a H H' → H' a = some (exo a C (some dx)) → H' dx = some (exd dx [(m, u'), (n, v')]) → H dx = none → Dq (fun b => New H b ∧ b ≠ dx) H' v' d → Dq (fun b => New H b ∧ b ≠ dx) H' u' e → Q .non H'
mutual
theorem dq_dom {N : Addr → Prop} : ∀ (d : PyData) (v : V), Dq N H v d → Dq (fun b => N b ∧ ∃ o, H b = some o) H v d
  | .none, _, x => by cases x; exact .non
  | .bool _, _, x => by cases x; exact .bl _
  | .int _, _, x => by cases x; exact .int _
  | .str _, _, x => by cases x; exact .str _
  | .list ds, _, x => by
    cases x with
    | lst n s a => exact .lst ⟨n, _, s⟩ s (dqa_dom ds _ a)
  | .tuple ds, _, x => by
    cases x with
    | tup n s a => exact .tup ⟨n, _, s⟩ s (dqa_dom ds _ a)
  | .dict _, _, x => by cases x
theorem dqa_dom {N : Addr → Prop} : ∀ (ds : List PyData) (vs : List V), DqAll N H vs ds → DqAll (fun b => N b ∧ ∃ o, H b = some o) H vs ds
  | [], _, x => by cases x; exact .nil
  | d :: ds, _, x => by
    cases x with
    | cons a b => exact .cons (dq_dom d _ a) (dqa_dom ds _ b)
end
theorem oth_new {a dx : Addr} {o u : HO} (e : Ex H H') (hdx : H' dx = none) : Oth a H (upd (upd H' dx o) a u) := fun b w nb hb => by
  rw [upd_ne nb, upd_ne fun z => by rw [← z, e _ _ hb] at hdx; cases hdx]
  exact e _ _ hb
theorem dq_new {a dx : Addr} {o u : HO} {N : Addr → Prop} {v : V} {d : PyData} (hdx : H' dx = none) (ha : ¬ N a) (h : Dq N H' v d) : Dq N (upd (upd H' dx o) a u) v d := dq_to (fun _ z => z) (fun b w nb hb => by
  rw [upd_ne fun z => ha (by rw [← z]; exact nb), upd_ne fun z => by rw [z, hdx] at hb; cases hb]
  exact hb) _ _ h
theorem ok_eNoRun {C f : Addr} {fd : FuncData} {k : Nat} (F : Fun K "__init__" "NoRun.__init__" sNoRun___init__ f fd) (T : OexC K C) (n1 : PySem.W.findIn K (.ref C) "index" = some none) (Ccopied : Cal P w K mg base 15 "copied" (spCopy K 15) []) (hk : 15 ≤ k) : FnOk P w K mg base CX0 (k + 1) f fd ["self", "index"] (spE1 K C "index") := by
  have sc := scNoRun___init__
  refine F.ok sc (fun vs H Q E h => ?_) (fun cdv A outer s H vs Q E hr h => ?_)
  · obtain ⟨a, v, d, rfl, _⟩ := h
    rfl
  · obtain ⟨a, v, d, rfl, ha, hv, hf, q⟩ := h
    refine ⟨_, (pss_one (ps_ost (pv 0) (pe_c Ccopied hr (by omega) (by rfl) (pa_cons (pv 1) pa_nil)))), ?_⟩
    refine cp_call (n := 15) rfl (ev_var rfl) hv hf H (Ex.refl _) _ fun y H1 e1 dq1 => ?_
    exact ⟨.ref a, rfl, a, C, rfl, T, n1, .inl ⟨e1 _ _ ha, fun dx hdx hne => q dx y _ (oth_new e1 hdx) upd_same (by rw [upd_ne hne, upd_same]) (dq_new hdx (fun z => by have z : H a = none := z; rw [ha] at z; cases z) dq1)⟩⟩
theorem ok_eNoHistory {C f : Addr} {fd : FuncData} {k : Nat} (F : Fun K "__init__" "NoHistory.__init__" sNoHistory___init__ f fd) (T : OexC K C) (n1 : PySem.W.findIn K (.ref C) "index" = some none) (Ccopied : Cal P w K mg base 15 "copied" (spCopy K 15) []) (hk : 15 ≤ k) : FnOk P w K mg base CX0 (k + 1) f fd ["self", "index"] (spE1 K C "index") := by
  have sc := scNoHistory___init__
  refine F.ok sc (fun vs H Q E h => ?_) (fun cdv A outer s H vs Q E hr h => ?_)
  · obtain ⟨a, v, d, rfl, _⟩ := h
    rfl
  · obtain ⟨a, v, d, rfl, ha, hv, hf, q⟩ := h
    refine ⟨_, (pss_one (ps_ost (pv 0) (pe_c Ccopied hr (by omega) (by rfl) (pa_cons (pv 1) pa_nil)))), ?_⟩
    refine cp_call (n := 15) rfl (ev_var rfl) hv hf H (Ex.refl _) _ fun y H1 e1 dq1 => ?_
    exact ⟨.ref a, rfl, a, C, rfl, T, n1, .inl ⟨e1 _ _ ha, fun dx hdx hne => q dx y _ (oth_new e1 hdx) upd_same (by rw [upd_ne hne, upd_same]) (dq_new hdx (fun z => by have z : H a = none := z; rw [ha] at z; cases z) dq1)⟩⟩
theorem ok_eNoVectors {C f : Addr} {fd : FuncData} {k : Nat} (F : Fun K "__init__" "NoVectors.__init__" sNoVectors___init__ f fd) (T : OexC K C) (n1 : PySem.W.findIn K (.ref C) "index" = some none) (Ccopied : Cal P w K mg base 15 "copied" (spCopy K 15) []) (hk : 15 ≤ k) : FnOk P w K mg base CX0 (k + 1) f fd ["self", "index"] (spE1 K C "index") := by
  have sc := scNoVectors___init__
  refine F.ok sc (fun vs H Q E h => ?_) (fun cdv A outer s H vs Q E hr h => ?_)
  · obtain ⟨a, v, d, rfl, _⟩ := h
    rfl
  · obtain ⟨a, v, d, rfl, ha, hv, hf, q⟩ := h
    refine ⟨_, (pss_one (ps_ost (pv 0) (pe_c Ccopied hr (by omega) (by rfl) (pa_cons (pv 1) pa_nil)))), ?_⟩
    refine cp_call (n := 15) rfl (ev_var rfl) hv hf H (Ex.refl _) _ fun y H1 e1 dq1 => ?_
    exact ⟨.ref a, rfl, a, C, rfl, T, n1, .inl ⟨e1 _ _ ha, fun dx hdx hne => q dx y _ (oth_new e1 hdx) upd_same (by rw [upd_ne hne, upd_same]) (dq_new hdx (fun z => by have z : H a = none := z; rw [ha] at z; cases z) dq1)⟩⟩
theorem ok_eNoEquations {C f : Addr} {fd : FuncData} {k : Nat} (F : Fun K "__init__" "NoEquations.__init__" sNoEquations___init__ f fd) (T : OexC K C) (n1 : PySem.W.findIn K (.ref C) "index" = some none) (Ccopied : Cal P w K mg base 15 "copied" (spCopy K 15) []) (hk : 15 ≤ k) : FnOk P w K mg base CX0 (k + 1) f fd ["self", "index"] (spE1 K C "index") := by
  have sc := scNoEquations___init__
  refine F.ok sc (fun vs H Q E h => ?_) (fun cdv A outer s H vs Q E hr h => ?_)
  · obtain ⟨a, v, d, rfl, _⟩ := h
    rfl
  · obtain ⟨a, v, d, rfl, ha, hv, hf, q⟩ := h
    refine ⟨_, (pss_one (ps_ost (pv 0) (pe_c Ccopied hr (by omega) (by rfl) (pa_cons (pv 1) pa_nil)))), ?_⟩
    refine cp_call (n := 15) rfl (ev_var rfl) hv hf H (Ex.refl _) _ fun y H1 e1 dq1 => ?_
    exact ⟨.ref a, rfl, a, C, rfl, T, n1, .inl ⟨e1 _ _ ha, fun dx hdx hne => q dx y _ (oth_new e1 hdx) upd_same (by rw [upd_ne hne, upd_same]) (dq_new hdx (fun z => by have z : H a = none := z; rw [ha] at z; cases z) dq1)⟩⟩
theorem ok_eNoEquation {C f : Addr} {fd : FuncData} {k : Nat} (F : Fun K "__init__" "NoEquation.__init__" sNoEquation___init__ f fd) (T : OexC K C) (n1 : PySem.W.findIn K (.ref C) "place" = some none) (Ccopied : Cal P w K mg base 15 "copied" (spCopy K 15) []) (hk : 15 ≤ k) : FnOk P w K mg base CX0 (k + 1) f fd ["self", "place"] (spE1 K C "place") := by
  have sc := scNoEquation___init__
  refine F.ok sc (fun vs H Q E h => ?_) (fun cdv A outer s H vs Q E hr h => ?_)
  · obtain ⟨a, v, d, rfl, _⟩ := h
    rfl
  · obtain ⟨a, v, d, rfl, ha, hv, hf, q⟩ := h
    refine ⟨_, (pss_one (ps_ost (pv 0) (pe_c Ccopied hr (by omega) (by rfl) (pa_cons (pv 1) pa_nil)))), ?_⟩
    refine cp_call (n := 15) rfl (ev_var rfl) hv hf H (Ex.refl _) _ fun y H1 e1 dq1 => ?_
    exact ⟨.ref a, rfl, a, C, rfl, T, n1, .inl ⟨e1 _ _ ha, fun dx hdx hne => q dx y _ (oth_new e1 hdx) upd_same (by rw [upd_ne hne, upd_same]) (dq_new hdx (fun z => by have z : H a = none := z; rw [ha] at z; cases z) dq1)⟩⟩
theorem ok_eNoSender {C f : Addr} {fd : FuncData} {k : Nat} (F : Fun K "__init__" "NoSender.__init__" sNoSender___init__ f fd) (T : OexC K C) (n1 : PySem.W.findIn K (.ref C) "state" = some none) (Ccopied : Cal P w K mg base 15 "copied" (spCopy K 15) []) (hk : 15 ≤ k) : FnOk P w K mg base CX0 (k + 1) f fd ["self", "state"] (spE1 K C "state") := by
  have sc := scNoSender___init__
  refine F.ok sc (fun vs H Q E h => ?_) (fun cdv A outer s H vs Q E hr h => ?_)
  · obtain ⟨a, v, d, rfl, _⟩ := h
    rfl
  · obtain ⟨a, v, d, rfl, ha, hv, hf, q⟩ := h
    refine ⟨_, (pss_one (ps_ost (pv 0) (pe_c Ccopied hr (by omega) (by rfl) (pa_cons (pv 1) pa_nil)))), ?_⟩
    refine cp_call (n := 15) rfl (ev_var rfl) hv hf H (Ex.refl _) _ fun y H1 e1 dq1 => ?_
    exact ⟨.ref a, rfl, a, C, rfl, T, n1, .inl ⟨e1 _ _ ha, fun dx hdx hne => q dx y _ (oth_new e1 hdx) upd_same (by rw [upd_ne hne, upd_same]) (dq_new hdx (fun z => by have z : H a = none := z; rw [ha] at z; cases z) dq1)⟩⟩
theorem ok_eTooMany {C f : Addr} {fd : FuncData} {k : Nat} (F : Fun K "__init__" "TooMany.__init__" sTooMany___init__ f fd) (T : OexC K C) (n1 : PySem.W.findIn K (.ref C) "many" = some none) (Ccopied : Cal P w K mg base 15 "copied" (spCopy K 15) []) (hk : 15 ≤ k) : FnOk P w K mg base CX0 (k + 1) f fd ["self", "many"] (spE1 K C "many") := by
  have sc := scTooMany___init__
  refine F.ok sc (fun vs H Q E h => ?_) (fun cdv A outer s H vs Q E hr h => ?_)
  · obtain ⟨a, v, d, rfl, _⟩ := h
    rfl
  · obtain ⟨a, v, d, rfl, ha, hv, hf, q⟩ := h
    refine ⟨_, (pss_one (ps_ost (pv 0) (pe_c Ccopied hr (by omega) (by rfl) (pa_cons (pv 1) pa_nil)))), ?_⟩
    refine cp_call (n := 15) rfl (ev_var rfl) hv hf H (Ex.refl _) _ fun y H1 e1 dq1 => ?_
    exact ⟨.ref a, rfl, a, C, rfl, T, n1, .inl ⟨e1 _ _ ha, fun dx hdx hne => q dx y _ (oth_new e1 hdx) upd_same (by rw [upd_ne hne, upd_same]) (dq_new hdx (fun z => by have z : H a = none := z; rw [ha] at z; cases z) dq1)⟩⟩
theorem ok_eNoText {C f : Addr} {fd : FuncData} {k : Nat} (F : Fun K "__init__" "NoText.__init__" sNoText___init__ f fd) (T : OexC K C) (n1 : PySem.W.findIn K (.ref C) "line" = some none) (Ccopied : Cal P w K mg base 15 "copied" (spCopy K 15) []) (hk : 15 ≤ k) : FnOk P w K mg base CX0 (k + 1) f fd ["self", "line"] (spE1 K C "line") := by
  have sc := scNoText___init__
  refine F.ok sc (fun vs H Q E h => ?_) (fun cdv A outer s H vs Q E hr h => ?_)
  · obtain ⟨a, v, d, rfl, _⟩ := h
    rfl
  · obtain ⟨a, v, d, rfl, ha, hv, hf, q⟩ := h
    refine ⟨_, (pss_one (ps_ost (pv 0) (pe_c Ccopied hr (by omega) (by rfl) (pa_cons (pv 1) pa_nil)))), ?_⟩
    refine cp_call (n := 15) rfl (ev_var rfl) hv hf H (Ex.refl _) _ fun y H1 e1 dq1 => ?_
    exact ⟨.ref a, rfl, a, C, rfl, T, n1, .inl ⟨e1 _ _ ha, fun dx hdx hne => q dx y _ (oth_new e1 hdx) upd_same (by rw [upd_ne hne, upd_same]) (dq_new hdx (fun z => by have z : H a = none := z; rw [ha] at z; cases z) dq1)⟩⟩
theorem ok_eNoBook {C f : Addr} {fd : FuncData} {k : Nat} (F : Fun K "__init__" "NoBook.__init__" sNoBook___init__ f fd) (T : OexC K C) (n1 : PySem.W.findIn K (.ref C) "procedure" = some none) (n2 : PySem.W.findIn K (.ref C) "path" = some none) (Ccopied : Cal P w K mg base 15 "copied" (spCopy K 15) []) (hk : 15 ≤ k) : FnOk P w K mg base CX0 (k + 1) f fd ["self", "procedure", "path"] (spE2 K C "procedure" "path") := by
  have sc := scNoBook___init__
  refine F.ok sc (fun vs H Q E h => ?_) (fun cdv A outer s H vs Q E hr h => ?_)
  · obtain ⟨a, v, u, d, e, Hb, rfl, _⟩ := h
    rfl
  · obtain ⟨a, v, u, d, e, Hb, rfl, ha, hba, eb, hv, hu, hf, hg, q⟩ := h
    refine ⟨_, (pss_cons (ps_ost (pv 0) (pe_c Ccopied hr (by omega) (by rfl) (pa_cons (pv 1) pa_nil)))
      (pss_one (ps_ost (pv 0) (pe_c Ccopied hr (by omega) (by rfl) (pa_cons (pv 2) pa_nil))))), ?_⟩
    refine cp_call (n := 15) rfl (ev_var rfl) (dp_ex eb _ _ hv) hf H (Ex.refl _) _ fun y H1 e1 dq1 => ?_
    refine ⟨.ref a, rfl, a, C, rfl, T, n1, .inl ⟨e1 _ _ ha, fun dx hdx hne => ?_⟩⟩
    have na : ¬ New H a := fun z => by have z : H a = none := z; rw [ha] at z; cases z
    have o2 := oth_new (a := a) (o := exd dx [("procedure", y)]) (u := exo a C (some dx)) e1 hdx
    have dq2 := dq_new (a := a) (o := exd dx [("procedure", y)]) (u := exo a C (some dx)) hdx (fun z => na z.1) (dq_dom _ _ dq1)
    have hd2 : upd (upd H1 dx (exd dx [("procedure", y)])) a (exo a C (some dx)) dx = some (exd dx [("procedure", y)]) := by rw [upd_ne hne, upd_same]
    have ha2 : upd (upd H1 dx (exd dx [("procedure", y)])) a (exo a C (some dx)) a = some (exo a C (some dx)) := upd_same
    generalize upd (upd H1 dx (exd dx [("procedure", y)])) a (exo a C (some dx)) = H2 at o2 dq2 hd2 ha2 ⊢
    have eb2 : Ex Hb H2 := fun b w hb => o2 _ _ (fun z => by rw [z, hba] at hb; cases hb) (eb _ _ hb)
    refine cp_call (n := 15) rfl (ev_var rfl) (dp_ex eb2 _ _ hu) hg H2 (Ex.refl _) _ fun z H3 e3 dq3 => ?_
    refine ⟨.ref a, rfl, a, C, rfl, T, n2, .inr ⟨dx, [("procedure", y)], e3 _ _ ha2, e3 _ _ hd2, by show 1 ≤ 900; decide, ?_⟩⟩
    have nd : ∀ {b : Addr} {w : HO}, H b = some w → b ≠ dx := fun hb z => by rw [z, fresh_back e1 hdx] at hb; cases hb
    refine q dx y z _ (fun b w nb hb => by rw [upd_ne (nd hb)]; exact e3 _ _ (o2 _ _ nb hb)) (by rw [upd_ne hne.symm]; exact e3 _ _ ha2) upd_same (fresh_back e1 hdx) ?_ ?_
    · refine dq_to (fun b z => ⟨z.1, fun y => by obtain ⟨o, ho⟩ := z.2; rw [y, hdx] at ho; cases ho⟩) (fun b w nb hb => ?_) _ _ dq2
      obtain ⟨o, ho⟩ := nb.2
      rw [upd_ne fun z => by rw [z, hdx] at ho; cases ho]
      exact e3 _ _ hb
    · refine dq_to (fun b z => ⟨?_, new_ne z ⟨_, hd2⟩⟩) (fun b w nb hb => by rw [upd_ne (new_ne nb ⟨_, hd2⟩)]; exact hb) _ _ dq3
      show H b = none
      cases hb : H b with
      | none => rfl
      | some o =>
        by_cases nb : b = a
        · rw [nb] at z
          have z : H2 a = none := z
          rw [ha2] at z; cases z
        · have z : H2 b = none := z
          rw [o2 _ _ nb hb] at z; cases z
end
/-! ### which error it is -/
abbrev s_law_kinds : Stmt := topS 39
theorem sc_law_kinds : FnScope ["thing", "found"] ["thing"] (defScope s_law_kinds) := ⟨rfl, rfl, rfl, by decide +kernel, rfl, by decide +kernel, by decide +kernel⟩
abbrev s_law_foreign : Stmt := topS 42
theorem sc_law_foreign : FnScope ["thing"] ["thing"] (defScope s_law_foreign) := ⟨rfl, rfl, rfl, by decide +kernel, rfl, by decide +kernel, by decide +kernel⟩
section
variable {P : Program} {w : World} {K : PySem.W.Frag} {mg : Str → Option Value} {base : Heap} {σ : L2.St} {H H' : Hp}
theorem ev_isX {te : TE} {a D C : Addr} {fs : List (Str × V)} {b : Bool} (h : Ev te σ H (.ref a)) (he : ErrAt H a D fs) (T : ErrC K D) (hk : PySem.W.kitOne K (.ref D) (.ref C) = some b) : Ev (tCB (rIsX K) (tCons te (tCons (tC (.ref C)) tNil))) σ H (.bl b) := fun H1 e Q q =>
  h H1 e _ fun H2 e2 => ⟨a, D, fs, .ref C, .ref C, b, rfl, errAt_ex (e.trans e2) he, T, fun u z => z, hk, q H2 e2⟩
theorem ev_isXT {te : TE} {a D : Addr} {fs : List (Str × V)} {c : String} {b : Bool} (h : Ev te σ H (.ref a)) (he : ErrAt H a D fs) (T : ErrC K D) (hk : PySem.W.kitOne K (.ref D) (.type c) = some b) : Ev (tCB (rIsX K) (tCons te (tCons (tC (.ty c)) tNil))) σ H (.bl b) := fun H1 e Q q =>
  h H1 e _ fun H2 e2 => ⟨a, D, fs, .ty c, .type c, b, rfl, errAt_ex (e.trans e2) he, T, fun u z => z, hk, q H2 e2⟩
def spKinds (K : PySem.W.Frag) (CA CB : List Addr) : Sp := fun vs H Q _ => ∃ (a D : Addr) (fs : List (Str × V)), vs = [.ref a] ∧ ErrAt H a D fs ∧ D ∈ CB ∧ ∀ L H', H L = none → Ex H H' → H' L = some (.lst (CA.map fun C => .bl (D == C))) → Q (.ref L) H'
theorem ok_kinds {a_NoCells a_NoProcedure a_NoPath a_NoBoard a_NoNumber a_NoDeed a_NoWidth a_NoTable a_NoClass a_NoState a_NoClasses a_NoClaims a_NoOrder a_NoFault a_NoMany a_NoList a_NoIndex a_NoDeeds a_NotLet a_NoReplica a_Held a_NoBook a_NoRun a_NoHistory a_NoVectors a_NoEquations a_NoEquation a_NoSender a_TooMany a_NoText : Addr} {f : Addr} {fd : FuncData} {k : Nat} {CB : List Addr} (F : Fun K "_law_kinds" "_law_kinds" s_law_kinds f fd) (z_isinstance : mg "isinstance" = none) (c_NoCells : mg "NoCells" = some (.ref a_NoCells)) (c_NoProcedure : mg "NoProcedure" = some (.ref a_NoProcedure)) (c_NoPath : mg "NoPath" = some (.ref a_NoPath)) (c_NoBoard : mg "NoBoard" = some (.ref a_NoBoard)) (c_NoNumber : mg "NoNumber" = some (.ref a_NoNumber)) (c_NoDeed : mg "NoDeed" = some (.ref a_NoDeed)) (c_NoWidth : mg "NoWidth" = some (.ref a_NoWidth)) (c_NoTable : mg "NoTable" = some (.ref a_NoTable)) (c_NoClass : mg "NoClass" = some (.ref a_NoClass)) (c_NoState : mg "NoState" = some (.ref a_NoState)) (c_NoClasses : mg "NoClasses" = some (.ref a_NoClasses)) (c_NoClaims : mg "NoClaims" = some (.ref a_NoClaims)) (c_NoOrder : mg "NoOrder" = some (.ref a_NoOrder)) (c_NoFault : mg "NoFault" = some (.ref a_NoFault)) (c_NoMany : mg "NoMany" = some (.ref a_NoMany)) (c_NoList : mg "NoList" = some (.ref a_NoList)) (c_NoIndex : mg "NoIndex" = some (.ref a_NoIndex)) (c_NoDeeds : mg "NoDeeds" = some (.ref a_NoDeeds)) (c_NotLet : mg "NotLet" = some (.ref a_NotLet)) (c_NoReplica : mg "NoReplica" = some (.ref a_NoReplica)) (c_Held : mg "Held" = some (.ref a_Held)) (c_NoBook : mg "NoBook" = some (.ref a_NoBook)) (c_NoRun : mg "NoRun" = some (.ref a_NoRun)) (c_NoHistory : mg "NoHistory" = some (.ref a_NoHistory)) (c_NoVectors : mg "NoVectors" = some (.ref a_NoVectors)) (c_NoEquations : mg "NoEquations" = some (.ref a_NoEquations)) (c_NoEquation : mg "NoEquation" = some (.ref a_NoEquation)) (c_NoSender : mg "NoSender" = some (.ref a_NoSender)) (c_TooMany : mg "TooMany" = some (.ref a_TooMany)) (c_NoText : mg "NoText" = some (.ref a_NoText)) (hT : ∀ D ∈ CB, ErrC K D) (hk : ∀ D ∈ CB, ∀ C ∈ [a_NoCells, a_NoProcedure, a_NoPath, a_NoBoard, a_NoNumber, a_NoDeed, a_NoWidth, a_NoTable, a_NoClass, a_NoState, a_NoClasses, a_NoClaims, a_NoOrder, a_NoFault, a_NoMany, a_NoList, a_NoIndex, a_NoDeeds, a_NotLet, a_NoReplica, a_Held, a_NoBook, a_NoRun, a_NoHistory, a_NoVectors, a_NoEquations, a_NoEquation, a_NoSender, a_TooMany, a_NoText], PySem.W.kitOne K (.ref D) (.ref C) = some (D == C)) :
    FnOk P w K mg base CX0 (k + 1) f fd ["thing"] (spKinds K [a_NoCells, a_NoProcedure, a_NoPath, a_NoBoard, a_NoNumber, a_NoDeed, a_NoWidth, a_NoTable, a_NoClass, a_NoState, a_NoClasses, a_NoClaims, a_NoOrder, a_NoFault, a_NoMany, a_NoList, a_NoIndex, a_NoDeeds, a_NotLet, a_NoReplica, a_Held, a_NoBook, a_NoRun, a_NoHistory, a_NoVectors, a_NoEquations, a_NoEquation, a_NoSender, a_TooMany, a_NoText] CB) := by
  have sc := sc_law_kinds
  refine F.ok sc (fun vs H Q E h => ?_) (fun cdv A outer s H vs Q E hr h => ?_)
  · obtain ⟨a, D, fs, rfl, _⟩ := h
    rfl
  · obtain ⟨a, D, fs, rfl, he, hD, q⟩ := h
    have T := hT D hD
    have hk := hk D hD
    refine ⟨_, (pss_cons (ps_set (i := 1) sc.nd rfl (by first | exact Or.inl rfl | exact Or.inr rfl) (pe_lst (pa_cons (pe_callB call_isX (by rfl) z_isinstance (by decide +kernel) (pa_cons (pv 0) (pa_cons (pe_glob (v := .ref a_NoCells) (by rfl) c_NoCells rfl) pa_nil))) (pa_cons (pe_callB call_isX (by rfl) z_isinstance (by decide +kernel) (pa_cons (pv 0) (pa_cons (pe_glob (v := .ref a_NoProcedure) (by rfl) c_NoProcedure rfl) pa_nil))) (pa_cons (pe_callB call_isX (by rfl) z_isinstance (by decide +kernel) (pa_cons (pv 0) (pa_cons (pe_glob (v := .ref a_NoPath) (by rfl) c_NoPath rfl) pa_nil))) (pa_cons (pe_callB call_isX (by rfl) z_isinstance (by decide +kernel) (pa_cons (pv 0) (pa_cons (pe_glob (v := .ref a_NoBoard) (by rfl) c_NoBoard rfl) pa_nil))) pa_nil))))))
      (pss_cons (ps_set (i := 1) sc.nd rfl (by first | exact Or.inl rfl | exact Or.inr rfl) (pe_op op_cat (pv 1) (pe_lst (pa_cons (pe_callB call_isX (by rfl) z_isinstance (by decide +kernel) (pa_cons (pv 0) (pa_cons (pe_glob (v := .ref a_NoNumber) (by rfl) c_NoNumber rfl) pa_nil))) (pa_cons (pe_callB call_isX (by rfl) z_isinstance (by decide +kernel) (pa_cons (pv 0) (pa_cons (pe_glob (v := .ref a_NoDeed) (by rfl) c_NoDeed rfl) pa_nil))) (pa_cons (pe_callB call_isX (by rfl) z_isinstance (by decide +kernel) (pa_cons (pv 0) (pa_cons (pe_glob (v := .ref a_NoWidth) (by rfl) c_NoWidth rfl) pa_nil))) (pa_cons (pe_callB call_isX (by rfl) z_isinstance (by decide +kernel) (pa_cons (pv 0) (pa_cons (pe_glob (v := .ref a_NoTable) (by rfl) c_NoTable rfl) pa_nil))) pa_nil)))))))
      (pss_cons (ps_set (i := 1) sc.nd rfl (by first | exact Or.inl rfl | exact Or.inr rfl) (pe_op op_cat (pv 1) (pe_lst (pa_cons (pe_callB call_isX (by rfl) z_isinstance (by decide +kernel) (pa_cons (pv 0) (pa_cons (pe_glob (v := .ref a_NoClass) (by rfl) c_NoClass rfl) pa_nil))) (pa_cons (pe_callB call_isX (by rfl) z_isinstance (by decide +kernel) (pa_cons (pv 0) (pa_cons (pe_glob (v := .ref a_NoState) (by rfl) c_NoState rfl) pa_nil))) (pa_cons (pe_callB call_isX (by rfl) z_isinstance (by decide +kernel) (pa_cons (pv 0) (pa_cons (pe_glob (v := .ref a_NoClasses) (by rfl) c_NoClasses rfl) pa_nil))) (pa_cons (pe_callB call_isX (by rfl) z_isinstance (by decide +kernel) (pa_cons (pv 0) (pa_cons (pe_glob (v := .ref a_NoClaims) (by rfl) c_NoClaims rfl) pa_nil))) pa_nil)))))))
      (pss_cons (ps_set (i := 1) sc.nd rfl (by first | exact Or.inl rfl | exact Or.inr rfl) (pe_op op_cat (pv 1) (pe_lst (pa_cons (pe_callB call_isX (by rfl) z_isinstance (by decide +kernel) (pa_cons (pv 0) (pa_cons (pe_glob (v := .ref a_NoOrder) (by rfl) c_NoOrder rfl) pa_nil))) (pa_cons (pe_callB call_isX (by rfl) z_isinstance (by decide +kernel) (pa_cons (pv 0) (pa_cons (pe_glob (v := .ref a_NoFault) (by rfl) c_NoFault rfl) pa_nil))) (pa_cons (pe_callB call_isX (by rfl) z_isinstance (by decide +kernel) (pa_cons (pv 0) (pa_cons (pe_glob (v := .ref a_NoMany) (by rfl) c_NoMany rfl) pa_nil))) (pa_cons (pe_callB call_isX (by rfl) z_isinstance (by decide +kernel) (pa_cons (pv 0) (pa_cons (pe_glob (v := .ref a_NoList) (by rfl) c_NoList rfl) pa_nil))) pa_nil)))))))
      (pss_cons (ps_set (i := 1) sc.nd rfl (by first | exact Or.inl rfl | exact Or.inr rfl) (pe_op op_cat (pv 1) (pe_lst (pa_cons (pe_callB call_isX (by rfl) z_isinstance (by decide +kernel) (pa_cons (pv 0) (pa_cons (pe_glob (v := .ref a_NoIndex) (by rfl) c_NoIndex rfl) pa_nil))) (pa_cons (pe_callB call_isX (by rfl) z_isinstance (by decide +kernel) (pa_cons (pv 0) (pa_cons (pe_glob (v := .ref a_NoDeeds) (by rfl) c_NoDeeds rfl) pa_nil))) (pa_cons (pe_callB call_isX (by rfl) z_isinstance (by decide +kernel) (pa_cons (pv 0) (pa_cons (pe_glob (v := .ref a_NotLet) (by rfl) c_NotLet rfl) pa_nil))) (pa_cons (pe_callB call_isX (by rfl) z_isinstance (by decide +kernel) (pa_cons (pv 0) (pa_cons (pe_glob (v := .ref a_NoReplica) (by rfl) c_NoReplica rfl) pa_nil))) pa_nil)))))))
      (pss_cons (ps_set (i := 1) sc.nd rfl (by first | exact Or.inl rfl | exact Or.inr rfl) (pe_op op_cat (pv 1) (pe_lst (pa_cons (pe_callB call_isX (by rfl) z_isinstance (by decide +kernel) (pa_cons (pv 0) (pa_cons (pe_glob (v := .ref a_Held) (by rfl) c_Held rfl) pa_nil))) (pa_cons (pe_callB call_isX (by rfl) z_isinstance (by decide +kernel) (pa_cons (pv 0) (pa_cons (pe_glob (v := .ref a_NoBook) (by rfl) c_NoBook rfl) pa_nil))) (pa_cons (pe_callB call_isX (by rfl) z_isinstance (by decide +kernel) (pa_cons (pv 0) (pa_cons (pe_glob (v := .ref a_NoRun) (by rfl) c_NoRun rfl) pa_nil))) (pa_cons (pe_callB call_isX (by rfl) z_isinstance (by decide +kernel) (pa_cons (pv 0) (pa_cons (pe_glob (v := .ref a_NoHistory) (by rfl) c_NoHistory rfl) pa_nil))) pa_nil)))))))
      (pss_cons (ps_set (i := 1) sc.nd rfl (by first | exact Or.inl rfl | exact Or.inr rfl) (pe_op op_cat (pv 1) (pe_lst (pa_cons (pe_callB call_isX (by rfl) z_isinstance (by decide +kernel) (pa_cons (pv 0) (pa_cons (pe_glob (v := .ref a_NoVectors) (by rfl) c_NoVectors rfl) pa_nil))) (pa_cons (pe_callB call_isX (by rfl) z_isinstance (by decide +kernel) (pa_cons (pv 0) (pa_cons (pe_glob (v := .ref a_NoEquations) (by rfl) c_NoEquations rfl) pa_nil))) (pa_cons (pe_callB call_isX (by rfl) z_isinstance (by decide +kernel) (pa_cons (pv 0) (pa_cons (pe_glob (v := .ref a_NoEquation) (by rfl) c_NoEquation rfl) pa_nil))) pa_nil))))))
      (pss_one (ps_ret (pe_op op_cat (pv 1) (pe_lst (pa_cons (pe_callB call_isX (by rfl) z_isinstance (by decide +kernel) (pa_cons (pv 0) (pa_cons (pe_glob (v := .ref a_NoSender) (by rfl) c_NoSender rfl) pa_nil))) (pa_cons (pe_callB call_isX (by rfl) z_isinstance (by decide +kernel) (pa_cons (pv 0) (pa_cons (pe_glob (v := .ref a_TooMany) (by rfl) c_TooMany rfl) pa_nil))) (pa_cons (pe_callB call_isX (by rfl) z_isinstance (by decide +kernel) (pa_cons (pv 0) (pa_cons (pe_glob (v := .ref a_NoText) (by rfl) c_NoText rfl) pa_nil))) pa_nil)))))))))))))), ?_⟩
    refine q_asgL (el_lst (ea_cons (ev_isX (ev_var rfl) he T (hk a_NoCells (by simp))) (ea_cons (ev_isX (ev_var rfl) he T (hk a_NoProcedure (by simp))) (ea_cons (ev_isX (ev_var rfl) he T (hk a_NoPath (by simp))) (ea_cons (ev_isX (ev_var rfl) he T (hk a_NoBoard (by simp))) ea_nil)))) (by show 4 ≤ 100000; decide)) fun L0 H0 n0 e0 hL0 => ?_
    refine q_asgL (el_catV rfl hL0 (el_lst (ea_cons (ev_isX (ev_var rfl) (errAt_ex e0 he) T (hk a_NoNumber (by simp))) (ea_cons (ev_isX (ev_var rfl) (errAt_ex e0 he) T (hk a_NoDeed (by simp))) (ea_cons (ev_isX (ev_var rfl) (errAt_ex e0 he) T (hk a_NoWidth (by simp))) (ea_cons (ev_isX (ev_var rfl) (errAt_ex e0 he) T (hk a_NoTable (by simp))) ea_nil)))) (by show 4 ≤ 100000; decide)) (by simp)) fun L1 H1 n1 f1 hL1 => ?_
    have e1 := e0.trans f1
    refine q_asgL (el_catV rfl hL1 (el_lst (ea_cons (ev_isX (ev_var rfl) (errAt_ex e1 he) T (hk a_NoClass (by simp))) (ea_cons (ev_isX (ev_var rfl) (errAt_ex e1 he) T (hk a_NoState (by simp))) (ea_cons (ev_isX (ev_var rfl) (errAt_ex e1 he) T (hk a_NoClasses (by simp))) (ea_cons (ev_isX (ev_var rfl) (errAt_ex e1 he) T (hk a_NoClaims (by simp))) ea_nil)))) (by show 4 ≤ 100000; decide)) (by simp)) fun L2 H2 n2 f2 hL2 => ?_
    have e2 := e1.trans f2
    refine q_asgL (el_catV rfl hL2 (el_lst (ea_cons (ev_isX (ev_var rfl) (errAt_ex e2 he) T (hk a_NoOrder (by simp))) (ea_cons (ev_isX (ev_var rfl) (errAt_ex e2 he) T (hk a_NoFault (by simp))) (ea_cons (ev_isX (ev_var rfl) (errAt_ex e2 he) T (hk a_NoMany (by simp))) (ea_cons (ev_isX (ev_var rfl) (errAt_ex e2 he) T (hk a_NoList (by simp))) ea_nil)))) (by show 4 ≤ 100000; decide)) (by simp)) fun L3 H3 n3 f3 hL3 => ?_
    have e3 := e2.trans f3
    refine q_asgL (el_catV rfl hL3 (el_lst (ea_cons (ev_isX (ev_var rfl) (errAt_ex e3 he) T (hk a_NoIndex (by simp))) (ea_cons (ev_isX (ev_var rfl) (errAt_ex e3 he) T (hk a_NoDeeds (by simp))) (ea_cons (ev_isX (ev_var rfl) (errAt_ex e3 he) T (hk a_NotLet (by simp))) (ea_cons (ev_isX (ev_var rfl) (errAt_ex e3 he) T (hk a_NoReplica (by simp))) ea_nil)))) (by show 4 ≤ 100000; decide)) (by simp)) fun L4 H4 n4 f4 hL4 => ?_
    have e4 := e3.trans f4
    refine q_asgL (el_catV rfl hL4 (el_lst (ea_cons (ev_isX (ev_var rfl) (errAt_ex e4 he) T (hk a_Held (by simp))) (ea_cons (ev_isX (ev_var rfl) (errAt_ex e4 he) T (hk a_NoBook (by simp))) (ea_cons (ev_isX (ev_var rfl) (errAt_ex e4 he) T (hk a_NoRun (by simp))) (ea_cons (ev_isX (ev_var rfl) (errAt_ex e4 he) T (hk a_NoHistory (by simp))) ea_nil)))) (by show 4 ≤ 100000; decide)) (by simp)) fun L5 H5 n5 f5 hL5 => ?_
    have e5 := e4.trans f5
    refine q_asgL (el_catV rfl hL5 (el_lst (ea_cons (ev_isX (ev_var rfl) (errAt_ex e5 he) T (hk a_NoVectors (by simp))) (ea_cons (ev_isX (ev_var rfl) (errAt_ex e5 he) T (hk a_NoEquations (by simp))) (ea_cons (ev_isX (ev_var rfl) (errAt_ex e5 he) T (hk a_NoEquation (by simp))) ea_nil))) (by show 3 ≤ 100000; decide)) (by simp)) fun L6 H6 n6 f6 hL6 => ?_
    have e6 := e5.trans f6
    exact s_retL (el_catV rfl hL6 (el_lst (ea_cons (ev_isX (ev_var rfl) (errAt_ex e6 he) T (hk a_NoSender (by simp))) (ea_cons (ev_isX (ev_var rfl) (errAt_ex e6 he) T (hk a_TooMany (by simp))) (ea_cons (ev_isX (ev_var rfl) (errAt_ex e6 he) T (hk a_NoText (by simp))) ea_nil))) (by show 3 ≤ 100000; decide)) (by simp)) fun L H9 nL f9 hL => q L H9 (fresh_back e6 nL) (e6.trans f9) hL
def spForeign (CB : List Addr) : Sp := fun vs H Q _ => ∃ (a D : Addr) (fs : List (Str × V)), vs = [.ref a] ∧ ErrAt H a D fs ∧ D ∈ CB ∧ ∀ H', Ex H H' → Q (.bl false) H'
def fiveB (K : PySem.W.Frag) (D : Addr) : Bool := ["KeyError", "IndexError", "TypeError", "ZeroDivisionError", "AttributeError"].all fun t => decide (PySem.W.kitOne K (.ref D) (.type t) = some false)
theorem ok_foreign {f : Addr} {fd : FuncData} {k : Nat} {CB : List Addr} (F : Fun K "_law_foreign" "_law_foreign" s_law_foreign f fd) (z_isinstance : mg "isinstance" = none) (z_KeyError : mg "KeyError" = none) (z_IndexError : mg "IndexError" = none) (z_TypeError : mg "TypeError" = none) (z_ZeroDivisionError : mg "ZeroDivisionError" = none) (z_AttributeError : mg "AttributeError" = none) (hT : ∀ D ∈ CB, ErrC K D) (hk : ∀ D ∈ CB, fiveB K D = true) : FnOk P w K mg base CX0 (k + 1) f fd ["thing"] (spForeign CB) := by
  have sc := sc_law_foreign
  refine F.ok sc (fun vs H Q E h => ?_) (fun cdv A outer s H vs Q E hr h => ?_)
  · obtain ⟨a, D, fs, rfl, _⟩ := h
    rfl
  · obtain ⟨a, D, fs, rfl, he, hD, q⟩ := h
    have T := hT D hD
    have h5 := hk D hD
    simp only [fiveB, List.all_cons, List.all_nil, Bool.and_true, Bool.and_eq_true, decide_eq_true_eq] at h5
    obtain ⟨h1, h2, h3, h4, h5⟩ := h5
    refine ⟨_, (pss_cons (ps_if (PW.pt (pw_or (pt_val (pe_callB call_isX (by rfl) z_isinstance (by decide +kernel) (pa_cons (pv 0) (pa_cons (pe_bltn (v := .ty "KeyError") (by rfl) z_KeyError (by decide +kernel) rfl) pa_nil)))) (pw_or (pt_val (pe_callB call_isX (by rfl) z_isinstance (by decide +kernel) (pa_cons (pv 0) (pa_cons (pe_bltn (v := .ty "IndexError") (by rfl) z_IndexError (by decide +kernel) rfl) pa_nil)))) (pw_or1 (pt_val (pe_callB call_isX (by rfl) z_isinstance (by decide +kernel) (pa_cons (pv 0) (pa_cons (pe_bltn (v := .ty "TypeError") (by rfl) z_TypeError (by decide +kernel) rfl) pa_nil))))))))
      (pss_one (ps_ret pe_bl))
      pss_nil)
      (pss_one (ps_ret (pe_or (pe_callB call_isX (by rfl) z_isinstance (by decide +kernel) (pa_cons (pv 0) (pa_cons (pe_bltn (v := .ty "ZeroDivisionError") (by rfl) z_ZeroDivisionError (by decide +kernel) rfl) pa_nil))) (pe_one (pe_callB call_isX (by rfl) z_isinstance (by decide +kernel) (pa_cons (pv 0) (pa_cons (pe_bltn (v := .ty "AttributeError") (by rfl) z_AttributeError (by decide +kernel) rfl) pa_nil)))))))), ?_⟩
    refine q_when (b := false) (et_or (a := false) (b := false) (et_B (ev_isXT (ev_var rfl) he T h1)) fun _ => et_or (a := false) (b := false) (et_B (ev_isXT (ev_var rfl) he T h2)) fun _ => et_B (ev_isXT (ev_var rfl) he T h3)) (fun h => (nomatch h)) fun _ H1 e1 => ?_
    exact s_ret (ev_orV (a := false) (b := false) (ev_isXT (ev_var rfl) (errAt_ex e1 he) T h4) fun _ => ev_isXT (ev_var rfl) (errAt_ex e1 he) T h5) fun H2 e2 => q H2 (e1.trans e2)
end
/-! ### errors made -/
abbrev s_law_made : Stmt := topS 40
theorem sc_law_made : FnScope ["first", "second", "plain"] ["first", "second"] (defScope s_law_made) := ⟨rfl, rfl, rfl, by decide +kernel, rfl, by decide +kernel, by decide +kernel⟩
abbrev s_law_thing : Stmt := topS 41
theorem sc_law_thing : FnScope ["pool", "kind", "number"] ["pool"] (defScope s_law_thing) := ⟨rfl, rfl, rfl, by decide +kernel, rfl, by decide +kernel, by decide +kernel⟩
section
variable {P : Program} {w : World} {K : PySem.W.Frag} {mg : Str → Option Value} {base : Heap} {σ : L2.St} {H H' : Hp}
def ErrIs (H : Hp) (v : V) (C : Addr) : Prop := ∃ a fs, v = .ref a ∧ ErrAt H a C fs
theorem errIs_ex {v : V} {C : Addr} (e : Ex H H') (h : ErrIs H v C) : ErrIs H' v C := by
  obtain ⟨a, fs, h1, h2⟩ := h
  exact ⟨a, fs, h1, errAt_ex e h2⟩
theorem ex_made {a : Addr} {o : HO} (n : H a = none) (o' : Oth a (upd H a o) H') : Ex H H' := fun b u hb => o' _ _ (ne_of_none hb n) (by rw [upd_ne (ne_of_none hb n)]; exact hb)
theorem ep_is0 {C : Addr} : EvP (fun _ H Q => ∀ a, H a = none → Q (.ref a) (upd H a (exo a C none))) σ H fun v H => ErrIs H v C := fun H1 e Q q a ha => q _ _ (Ex.new ha) ⟨a, [], rfl, .inl ⟨rfl, upd_same⟩⟩
theorem ep_err1 {te : TE} {v : V} {d : PyData} {C : Addr} {n : Str} (h : Ev te σ H v) (hd : Dp K H v d) (hf : fit d 14 = true) : EvP (tErrI C (spE1 K C n) (tCons te tNil)) σ H fun v' H' => ∃ a u, v' = .ref a ∧ ErrAt H' a C [(n, u)] ∧ Dp K H' u d := fun H1 e Q q =>
  h H1 e _ fun H2 e2 => ⟨by show 1 ≤ 1000; decide, fun a ha => ⟨a, v, d, rfl, upd_same, dp_ex ((e.trans e2).trans (Ex.new ha)) _ _ hd, hf, fun dx u H' o h1 h2 dq => ⟨rfl, q _ _ (e2.trans (ex_made ha o)) ⟨a, u, rfl, .inr ⟨dx, h1, h2⟩, dq_dp _ _ dq⟩⟩⟩⟩
theorem ep_err2 {t1 t2 : TE} {v1 v2 : V} {d1 d2 : PyData} {C : Addr} {n m : Str} (h1 : Ev t1 σ H v1) (h2 : Ev t2 σ H v2) (hd1 : Dp K H v1 d1) (hd2 : Dp K H v2 d2) (hf1 : fit d1 14 = true) (hf2 : fit d2 14 = true) : EvP (tErrI C (spE2 K C n m) (tCons t1 (tCons t2 tNil))) σ H fun v' H' => ∃ a u1 u2, v' = .ref a ∧ ErrAt H' a C [(m, u2), (n, u1)] ∧ Dp K H' u1 d1 ∧ Dp K H' u2 d2 := fun H1 e Q q =>
  h1 H1 e _ fun H2 e2 => h2 H2 (e.trans e2) _ fun H3 e3 => ⟨by show 2 ≤ 1000; decide, fun a ha => ⟨a, v1, v2, d1, d2, H3, rfl, upd_same, ha, Ex.new ha, dp_ex ((e.trans e2).trans e3) _ _ hd1, dp_ex ((e.trans e2).trans e3) _ _ hd2, hf1, hf2, fun dx u1 u2 H' o g1 g2 _ q1 q2 => ⟨rfl, q _ _ ((e2.trans e3).trans (ex_made ha o)) ⟨a, u1, u2, rfl, .inr ⟨dx, g1, g2⟩, dq_dp _ _ q1, dq_dp _ _ q2⟩⟩⟩⟩
theorem ep_is1 {te : TE} {v : V} {d : PyData} {C : Addr} {n : Str} (h : Ev te σ H v) (hd : Dp K H v d) (hf : fit d 14 = true) : EvP (tErrI C (spE1 K C n) (tCons te tNil)) σ H fun v H => ErrIs H v C := (ep_err1 h hd hf).imp fun v H2 e ⟨a, u, h1, h2, _⟩ => ⟨a, _, h1, h2⟩
theorem ep_is2 {t1 t2 : TE} {v1 v2 : V} {d1 d2 : PyData} {C : Addr} {n m : Str} (h1 : Ev t1 σ H v1) (h2 : Ev t2 σ H v2) (hd1 : Dp K H v1 d1) (hd2 : Dp K H v2 d2) (hf1 : fit d1 14 = true) (hf2 : fit d2 14 = true) : EvP (tErrI C (spE2 K C n m) (tCons t1 (tCons t2 tNil))) σ H fun v H => ErrIs H v C := (ep_err2 h1 h2 hd1 hd2 hf1 hf2).imp fun v H2 e ⟨a, u1, u2, g1, g2, _⟩ => ⟨a, _, g1, g2⟩
def EvE (ta : TA) (σ : L2.St) (H : Hp) (Cs : List Addr) : Prop := ∀ H1, Ex H H1 → ∀ Q : List V → Hp → Prop, (∀ vs H2, Ex H1 H2 → Paired (ErrIs H2) vs Cs → Q vs H2) → ta σ H1 Q
theorem ee_nil : EvE tNil σ H [] := fun H1 _ Q q => q [] H1 (Ex.refl _) .nil
theorem ee_cons {te : TE} {ta : TA} {C : Addr} {Cs : List Addr} (h : EvP te σ H fun v H => ErrIs H v C) (hr : EvE ta σ H Cs) : EvE (tCons te ta) σ H (C :: Cs) := fun H1 e Q q =>
  h H1 e _ fun v H2 e2 f => hr H2 (e.trans e2) _ fun vs H3 e3 g => q (v :: vs) H3 (e2.trans e3) (.cons (errIs_ex e3 f) g)
def EvEL (te : TE) (σ : L2.St) (H : Hp) (Cs : List Addr) : Prop := ∀ H1, Ex H H1 → ∀ Q : VK, (∀ L vs H2, H1 L = none → Ex H1 H2 → H2 L = some (.lst vs) → Paired (ErrIs H2) vs Cs → Q (.ref L) H2) → te σ H1 Q
theorem el_errs {ta : TA} {Cs : List Addr} (h : EvE ta σ H Cs) (hl : Cs.length ≤ 1000) : EvEL (tLst ta) σ H Cs := fun H1 e Q q =>
  h H1 e _ fun vs H2 e2 hv => ⟨sz_of (by rw [Paired.length hv]; omega), fun L nL => q L vs _ (fresh_back e2 nL) (e2.trans (Ex.new nL)) upd_same (Paired.mapP hv fun _ _ h => errIs_ex (Ex.new nL) h)⟩
theorem paired_appE {α β : Type} {F : α → β → Prop} : ∀ {a c : List α} {b d : List β}, Paired F a b → Paired F c d → Paired F (a ++ c) (b ++ d)
  | _, _, _, _, .nil, h => h
  | _, _, _, _, .cons x y, h => .cons x (paired_appE y h)
theorem el_errcat {ta : TA} {i : Nat} {L : Addr} {vs : List V} {Cs Ds : List Addr} (hi : σ[i]? = some (some (.ref L))) (hL : H L = some (.lst vs)) (hv : Paired (ErrIs H) vs Cs) (h : EvE ta σ H Ds) (hl : Cs.length + Ds.length ≤ 1000) : EvEL (tOp rCat (tVar i) (tLst ta)) σ H (Cs ++ Ds) := fun H1 e Q q =>
  ⟨.ref L, hi, h H1 e _ fun ws H2 e2 hw => ⟨sz_of (by rw [Paired.length hw]; omega), fun M nM => by
    have eM := Ex.new (o := .lst ws) nM
    refine ⟨L, M, vs, ws, rfl, rfl, eM _ _ (e2 _ _ (e _ _ hL)), upd_same, sz_of (by rw [Paired.length hv, Paired.length hw]; omega), fun R nR => ?_⟩
    have eR := Ex.new (o := .lst (vs ++ ws)) nR
    exact q R _ _ (fresh_back (e2.trans eM) nR) ((e2.trans eM).trans eR) upd_same (paired_appE (Paired.mapP hv fun _ _ h => errIs_ex (((e.trans e2).trans eM).trans eR) h) (Paired.mapP hw fun _ _ h => errIs_ex (eM.trans eR) h))⟩⟩
def spMade (K : PySem.W.Frag) (CA : List Addr) : Sp := fun vs H Q _ => ∃ (v1 v2 : V) (d1 d2 : PyData), vs = [v1, v2] ∧ Dp K H v1 d1 ∧ Dp K H v2 d2 ∧ fit d1 14 = true ∧ fit d2 14 = true ∧ ∀ L xs H', H L = none → Ex H H' → H' L = some (.lst xs) → Paired (ErrIs H') xs CA → Q (.ref L) H'
theorem ok_made {a_NoCells a_NoProcedure a_NoPath a_NoBoard a_NoNumber a_NoDeed a_NoWidth a_NoTable a_NoClass a_NoState a_NoClasses a_NoClaims a_NoOrder a_NoFault a_NoMany a_NoList a_NoIndex a_NoDeeds a_NotLet a_NoReplica a_Held a_NoBook a_NoRun a_NoHistory a_NoVectors a_NoEquations a_NoEquation a_NoSender a_TooMany a_NoText : Addr} {f_NoBook f_NoRun f_NoHistory f_NoVectors f_NoEquations f_NoEquation f_NoSender f_TooMany f_NoText : Addr} {fd_NoBook fd_NoRun fd_NoHistory fd_NoVectors fd_NoEquations fd_NoEquation fd_NoSender fd_TooMany fd_NoText : FuncData} {f : Addr} {fd : FuncData} {k : Nat} (F : Fun K "_law_made" "_law_made" s_law_made f fd) (c_NoCells : mg "NoCells" = some (.ref a_NoCells)) (x_NoCells : PySem.W.excIn K a_NoCells [.type "ValueError", .type "Exception", .type "BaseException", .type "object"] "ValueError.__new__" = true) (k_NoCells : PySem.W.keepIn K (.ref a_NoCells) = true) (c_NoProcedure : mg "NoProcedure" = some (.ref a_NoProcedure)) (x_NoProcedure : PySem.W.excIn K a_NoProcedure [.type "ValueError", .type "Exception", .type "BaseException", .type "object"] "ValueError.__new__" = true) (k_NoProcedure : PySem.W.keepIn K (.ref a_NoProcedure) = true) (c_NoPath : mg "NoPath" = some (.ref a_NoPath)) (x_NoPath : PySem.W.excIn K a_NoPath [.type "ValueError", .type "Exception", .type "BaseException", .type "object"] "ValueError.__new__" = true) (k_NoPath : PySem.W.keepIn K (.ref a_NoPath) = true) (c_NoBoard : mg "NoBoard" = some (.ref a_NoBoard)) (x_NoBoard : PySem.W.excIn K a_NoBoard [.type "ValueError", .type "Exception", .type "BaseException", .type "object"] "ValueError.__new__" = true) (k_NoBoard : PySem.W.keepIn K (.ref a_NoBoard) = true) (c_NoNumber : mg "NoNumber" = some (.ref a_NoNumber)) (x_NoNumber : PySem.W.excIn K a_NoNumber [.type "ValueError", .type "Exception", .type "BaseException", .type "object"] "ValueError.__new__" = true) (k_NoNumber : PySem.W.keepIn K (.ref a_NoNumber) = true) (c_NoDeed : mg "NoDeed" = some (.ref a_NoDeed)) (x_NoDeed : PySem.W.excIn K a_NoDeed [.type "ValueError", .type "Exception", .type "BaseException", .type "object"] "ValueError.__new__" = true) (k_NoDeed : PySem.W.keepIn K (.ref a_NoDeed) = true) (c_NoWidth : mg "NoWidth" = some (.ref a_NoWidth)) (x_NoWidth : PySem.W.excIn K a_NoWidth [.type "ValueError", .type "Exception", .type "BaseException", .type "object"] "ValueError.__new__" = true) (k_NoWidth : PySem.W.keepIn K (.ref a_NoWidth) = true) (c_NoTable : mg "NoTable" = some (.ref a_NoTable)) (x_NoTable : PySem.W.excIn K a_NoTable [.type "ValueError", .type "Exception", .type "BaseException", .type "object"] "ValueError.__new__" = true) (k_NoTable : PySem.W.keepIn K (.ref a_NoTable) = true) (c_NoClass : mg "NoClass" = some (.ref a_NoClass)) (x_NoClass : PySem.W.excIn K a_NoClass [.type "ValueError", .type "Exception", .type "BaseException", .type "object"] "ValueError.__new__" = true) (k_NoClass : PySem.W.keepIn K (.ref a_NoClass) = true) (c_NoState : mg "NoState" = some (.ref a_NoState)) (x_NoState : PySem.W.excIn K a_NoState [.type "ValueError", .type "Exception", .type "BaseException", .type "object"] "ValueError.__new__" = true) (k_NoState : PySem.W.keepIn K (.ref a_NoState) = true) (c_NoClasses : mg "NoClasses" = some (.ref a_NoClasses)) (x_NoClasses : PySem.W.excIn K a_NoClasses [.type "ValueError", .type "Exception", .type "BaseException", .type "object"] "ValueError.__new__" = true) (k_NoClasses : PySem.W.keepIn K (.ref a_NoClasses) = true) (c_NoClaims : mg "NoClaims" = some (.ref a_NoClaims)) (x_NoClaims : PySem.W.excIn K a_NoClaims [.type "ValueError", .type "Exception", .type "BaseException", .type "object"] "ValueError.__new__" = true) (k_NoClaims : PySem.W.keepIn K (.ref a_NoClaims) = true) (c_NoOrder : mg "NoOrder" = some (.ref a_NoOrder)) (x_NoOrder : PySem.W.excIn K a_NoOrder [.type "ValueError", .type "Exception", .type "BaseException", .type "object"] "ValueError.__new__" = true) (k_NoOrder : PySem.W.keepIn K (.ref a_NoOrder) = true) (c_NoFault : mg "NoFault" = some (.ref a_NoFault)) (x_NoFault : PySem.W.excIn K a_NoFault [.type "ValueError", .type "Exception", .type "BaseException", .type "object"] "ValueError.__new__" = true) (k_NoFault : PySem.W.keepIn K (.ref a_NoFault) = true) (c_NoMany : mg "NoMany" = some (.ref a_NoMany)) (x_NoMany : PySem.W.excIn K a_NoMany [.type "ValueError", .type "Exception", .type "BaseException", .type "object"] "ValueError.__new__" = true) (k_NoMany : PySem.W.keepIn K (.ref a_NoMany) = true) (c_NoList : mg "NoList" = some (.ref a_NoList)) (x_NoList : PySem.W.excIn K a_NoList [.type "ValueError", .type "Exception", .type "BaseException", .type "object"] "ValueError.__new__" = true) (k_NoList : PySem.W.keepIn K (.ref a_NoList) = true) (c_NoIndex : mg "NoIndex" = some (.ref a_NoIndex)) (x_NoIndex : PySem.W.excIn K a_NoIndex [.type "ValueError", .type "Exception", .type "BaseException", .type "object"] "ValueError.__new__" = true) (k_NoIndex : PySem.W.keepIn K (.ref a_NoIndex) = true) (c_NoDeeds : mg "NoDeeds" = some (.ref a_NoDeeds)) (x_NoDeeds : PySem.W.excIn K a_NoDeeds [.type "ValueError", .type "Exception", .type "BaseException", .type "object"] "ValueError.__new__" = true) (k_NoDeeds : PySem.W.keepIn K (.ref a_NoDeeds) = true) (c_NotLet : mg "NotLet" = some (.ref a_NotLet)) (x_NotLet : PySem.W.excIn K a_NotLet [.type "ValueError", .type "Exception", .type "BaseException", .type "object"] "ValueError.__new__" = true) (k_NotLet : PySem.W.keepIn K (.ref a_NotLet) = true) (c_NoReplica : mg "NoReplica" = some (.ref a_NoReplica)) (x_NoReplica : PySem.W.excIn K a_NoReplica [.type "ValueError", .type "Exception", .type "BaseException", .type "object"] "ValueError.__new__" = true) (k_NoReplica : PySem.W.keepIn K (.ref a_NoReplica) = true) (c_Held : mg "Held" = some (.ref a_Held)) (x_Held : PySem.W.excIn K a_Held [.type "ValueError", .type "Exception", .type "BaseException", .type "object"] "ValueError.__new__" = true) (k_Held : PySem.W.keepIn K (.ref a_Held) = true) (c_NoBook : mg "NoBook" = some (.ref a_NoBook)) (T_NoBook : OexC K a_NoBook) (i_NoBook : PySem.W.findIn K (.ref a_NoBook) "__init__" = some (some (.ref f_NoBook))) (t_NoBook : PySem.W.typeIn K (.ref f_NoBook) = some (.type "function")) (F_NoBook : FnOk P w K mg base CX0 16 f_NoBook fd_NoBook ["self", "procedure", "path"] (spE2 K a_NoBook "procedure" "path")) (b_NoBook : Binds K fd_NoBook ["self", "procedure", "path"] []) (c_NoRun : mg "NoRun" = some (.ref a_NoRun)) (T_NoRun : OexC K a_NoRun) (i_NoRun : PySem.W.findIn K (.ref a_NoRun) "__init__" = some (some (.ref f_NoRun))) (t_NoRun : PySem.W.typeIn K (.ref f_NoRun) = some (.type "function")) (F_NoRun : FnOk P w K mg base CX0 16 f_NoRun fd_NoRun ["self", "index"] (spE1 K a_NoRun "index")) (b_NoRun : Binds K fd_NoRun ["self", "index"] []) (c_NoHistory : mg "NoHistory" = some (.ref a_NoHistory)) (T_NoHistory : OexC K a_NoHistory) (i_NoHistory : PySem.W.findIn K (.ref a_NoHistory) "__init__" = some (some (.ref f_NoHistory))) (t_NoHistory : PySem.W.typeIn K (.ref f_NoHistory) = some (.type "function")) (F_NoHistory : FnOk P w K mg base CX0 16 f_NoHistory fd_NoHistory ["self", "index"] (spE1 K a_NoHistory "index")) (b_NoHistory : Binds K fd_NoHistory ["self", "index"] []) (c_NoVectors : mg "NoVectors" = some (.ref a_NoVectors)) (T_NoVectors : OexC K a_NoVectors) (i_NoVectors : PySem.W.findIn K (.ref a_NoVectors) "__init__" = some (some (.ref f_NoVectors))) (t_NoVectors : PySem.W.typeIn K (.ref f_NoVectors) = some (.type "function")) (F_NoVectors : FnOk P w K mg base CX0 16 f_NoVectors fd_NoVectors ["self", "index"] (spE1 K a_NoVectors "index")) (b_NoVectors : Binds K fd_NoVectors ["self", "index"] []) (c_NoEquations : mg "NoEquations" = some (.ref a_NoEquations)) (T_NoEquations : OexC K a_NoEquations) (i_NoEquations : PySem.W.findIn K (.ref a_NoEquations) "__init__" = some (some (.ref f_NoEquations))) (t_NoEquations : PySem.W.typeIn K (.ref f_NoEquations) = some (.type "function")) (F_NoEquations : FnOk P w K mg base CX0 16 f_NoEquations fd_NoEquations ["self", "index"] (spE1 K a_NoEquations "index")) (b_NoEquations : Binds K fd_NoEquations ["self", "index"] []) (c_NoEquation : mg "NoEquation" = some (.ref a_NoEquation)) (T_NoEquation : OexC K a_NoEquation) (i_NoEquation : PySem.W.findIn K (.ref a_NoEquation) "__init__" = some (some (.ref f_NoEquation))) (t_NoEquation : PySem.W.typeIn K (.ref f_NoEquation) = some (.type "function")) (F_NoEquation : FnOk P w K mg base CX0 16 f_NoEquation fd_NoEquation ["self", "place"] (spE1 K a_NoEquation "place")) (b_NoEquation : Binds K fd_NoEquation ["self", "place"] []) (c_NoSender : mg "NoSender" = some (.ref a_NoSender)) (T_NoSender : OexC K a_NoSender) (i_NoSender : PySem.W.findIn K (.ref a_NoSender) "__init__" = some (some (.ref f_NoSender))) (t_NoSender : PySem.W.typeIn K (.ref f_NoSender) = some (.type "function")) (F_NoSender : FnOk P w K mg base CX0 16 f_NoSender fd_NoSender ["self", "state"] (spE1 K a_NoSender "state")) (b_NoSender : Binds K fd_NoSender ["self", "state"] []) (c_TooMany : mg "TooMany" = some (.ref a_TooMany)) (T_TooMany : OexC K a_TooMany) (i_TooMany : PySem.W.findIn K (.ref a_TooMany) "__init__" = some (some (.ref f_TooMany))) (t_TooMany : PySem.W.typeIn K (.ref f_TooMany) = some (.type "function")) (F_TooMany : FnOk P w K mg base CX0 16 f_TooMany fd_TooMany ["self", "many"] (spE1 K a_TooMany "many")) (b_TooMany : Binds K fd_TooMany ["self", "many"] []) (c_NoText : mg "NoText" = some (.ref a_NoText)) (T_NoText : OexC K a_NoText) (i_NoText : PySem.W.findIn K (.ref a_NoText) "__init__" = some (some (.ref f_NoText))) (t_NoText : PySem.W.typeIn K (.ref f_NoText) = some (.type "function")) (F_NoText : FnOk P w K mg base CX0 16 f_NoText fd_NoText ["self", "line"] (spE1 K a_NoText "line")) (b_NoText : Binds K fd_NoText ["self", "line"] []) (hk : 17 ≤ k) : FnOk P w K mg base CX0 (k + 1) f fd ["first", "second"] (spMade K [a_NoCells, a_NoProcedure, a_NoPath, a_NoBoard, a_NoNumber, a_NoDeed, a_NoWidth, a_NoTable, a_NoClass, a_NoState, a_NoClasses, a_NoClaims, a_NoOrder, a_NoFault, a_NoMany, a_NoList, a_NoIndex, a_NoDeeds, a_NotLet, a_NoReplica, a_Held, a_NoBook, a_NoRun, a_NoHistory, a_NoVectors, a_NoEquations, a_NoEquation, a_NoSender, a_TooMany, a_NoText]) := by
  have sc := sc_law_made
  refine F.ok sc (fun vs H Q E h => ?_) (fun cdv A outer s H vs Q E hr h => ?_)
  · obtain ⟨v1, v2, d1, d2, rfl, _⟩ := h
    rfl
  · obtain ⟨v1, v2, d1, d2, rfl, h1, h2, ft1, ft2, q⟩ := h
    refine ⟨_, (pss_cons (ps_set (i := 2) sc.nd rfl (by first | exact Or.inl rfl | exact Or.inr rfl) (pe_lst (pa_cons (pe_err0 PySem.F.excBase_ValueError x_NoCells c_NoCells k_NoCells (by rfl)) (pa_cons (pe_err0 PySem.F.excBase_ValueError x_NoProcedure c_NoProcedure k_NoProcedure (by rfl)) (pa_cons (pe_err0 PySem.F.excBase_ValueError x_NoPath c_NoPath k_NoPath (by rfl)) (pa_cons (pe_err0 PySem.F.excBase_ValueError x_NoBoard c_NoBoard k_NoBoard (by rfl)) (pa_cons (pe_err0 PySem.F.excBase_ValueError x_NoNumber c_NoNumber k_NoNumber (by rfl)) (pa_cons (pe_err0 PySem.F.excBase_ValueError x_NoDeed c_NoDeed k_NoDeed (by rfl)) (pa_cons (pe_err0 PySem.F.excBase_ValueError x_NoWidth c_NoWidth k_NoWidth (by rfl)) (pa_cons (pe_err0 PySem.F.excBase_ValueError x_NoTable c_NoTable k_NoTable (by rfl)) (pa_cons (pe_err0 PySem.F.excBase_ValueError x_NoClass c_NoClass k_NoClass (by rfl)) pa_nil)))))))))))
      (pss_cons (ps_set (i := 2) sc.nd rfl (by first | exact Or.inl rfl | exact Or.inr rfl) (pe_op op_cat (pv 2) (pe_lst (pa_cons (pe_err0 PySem.F.excBase_ValueError x_NoState c_NoState k_NoState (by rfl)) (pa_cons (pe_err0 PySem.F.excBase_ValueError x_NoClasses c_NoClasses k_NoClasses (by rfl)) (pa_cons (pe_err0 PySem.F.excBase_ValueError x_NoClaims c_NoClaims k_NoClaims (by rfl)) (pa_cons (pe_err0 PySem.F.excBase_ValueError x_NoOrder c_NoOrder k_NoOrder (by rfl)) (pa_cons (pe_err0 PySem.F.excBase_ValueError x_NoFault c_NoFault k_NoFault (by rfl)) (pa_cons (pe_err0 PySem.F.excBase_ValueError x_NoMany c_NoMany k_NoMany (by rfl)) (pa_cons (pe_err0 PySem.F.excBase_ValueError x_NoList c_NoList k_NoList (by rfl)) (pa_cons (pe_err0 PySem.F.excBase_ValueError x_NoIndex c_NoIndex k_NoIndex (by rfl)) pa_nil)))))))))))
      (pss_cons (ps_set (i := 2) sc.nd rfl (by first | exact Or.inl rfl | exact Or.inr rfl) (pe_op op_cat (pv 2) (pe_lst (pa_cons (pe_err0 PySem.F.excBase_ValueError x_NoDeeds c_NoDeeds k_NoDeeds (by rfl)) (pa_cons (pe_err0 PySem.F.excBase_ValueError x_NotLet c_NotLet k_NotLet (by rfl)) (pa_cons (pe_err0 PySem.F.excBase_ValueError x_NoReplica c_NoReplica k_NoReplica (by rfl)) (pa_cons (pe_err0 PySem.F.excBase_ValueError x_Held c_Held k_Held (by rfl)) pa_nil)))))))
      (pss_cons (ps_set (i := 2) sc.nd rfl (by first | exact Or.inl rfl | exact Or.inr rfl) (pe_op op_cat (pv 2) (pe_lst (pa_cons (pe_errI T_NoBook i_NoBook t_NoBook F_NoBook (hr.mono (by omega)) b_NoBook pass0 (by rfl) c_NoBook (pa_cons (pv 0) (pa_cons (pv 1) pa_nil))) (pa_cons (pe_errI T_NoRun i_NoRun t_NoRun F_NoRun (hr.mono (by omega)) b_NoRun pass0 (by rfl) c_NoRun (pa_cons (pv 0) pa_nil)) (pa_cons (pe_errI T_NoHistory i_NoHistory t_NoHistory F_NoHistory (hr.mono (by omega)) b_NoHistory pass0 (by rfl) c_NoHistory (pa_cons (pv 0) pa_nil)) (pa_cons (pe_errI T_NoVectors i_NoVectors t_NoVectors F_NoVectors (hr.mono (by omega)) b_NoVectors pass0 (by rfl) c_NoVectors (pa_cons (pv 0) pa_nil)) (pa_cons (pe_errI T_NoEquations i_NoEquations t_NoEquations F_NoEquations (hr.mono (by omega)) b_NoEquations pass0 (by rfl) c_NoEquations (pa_cons (pv 0) pa_nil)) pa_nil))))))))
      (pss_one (ps_ret (pe_op op_cat (pv 2) (pe_lst (pa_cons (pe_errI T_NoEquation i_NoEquation t_NoEquation F_NoEquation (hr.mono (by omega)) b_NoEquation pass0 (by rfl) c_NoEquation (pa_cons (pv 0) pa_nil)) (pa_cons (pe_errI T_NoSender i_NoSender t_NoSender F_NoSender (hr.mono (by omega)) b_NoSender pass0 (by rfl) c_NoSender (pa_cons (pv 0) pa_nil)) (pa_cons (pe_errI T_TooMany i_TooMany t_TooMany F_TooMany (hr.mono (by omega)) b_TooMany pass0 (by rfl) c_TooMany (pa_cons (pv 0) pa_nil)) (pa_cons (pe_errI T_NoText i_NoText t_NoText F_NoText (hr.mono (by omega)) b_NoText pass0 (by rfl) c_NoText (pa_cons (pv 0) pa_nil)) pa_nil)))))))))))), ?_⟩
    refine q_run (el_errs (ee_cons ep_is0 (ee_cons ep_is0 (ee_cons ep_is0 (ee_cons ep_is0 (ee_cons ep_is0 (ee_cons ep_is0 (ee_cons ep_is0 (ee_cons ep_is0 (ee_cons ep_is0 ee_nil))))))))) (by show 9 ≤ 1000; decide) H (Ex.refl _) _ fun L0 v0 H0 n0 e0 hL0 p0 => ?_)
    refine q_run (el_errcat rfl hL0 p0 (ee_cons ep_is0 (ee_cons ep_is0 (ee_cons ep_is0 (ee_cons ep_is0 (ee_cons ep_is0 (ee_cons ep_is0 (ee_cons ep_is0 (ee_cons ep_is0 ee_nil)))))))) (by simp) H0 (Ex.refl _) _ fun L1 v1 H1 n1 f1 hL1 p1 => ?_)
    have e1 := e0.trans f1
    refine q_run (el_errcat rfl hL1 p1 (ee_cons ep_is0 (ee_cons ep_is0 (ee_cons ep_is0 (ee_cons ep_is0 ee_nil)))) (by simp) H1 (Ex.refl _) _ fun L2 v2 H2 n2 f2 hL2 p2 => ?_)
    have e2 := e1.trans f2
    refine q_run (el_errcat rfl hL2 p2 (ee_cons (ep_is2 (ev_var rfl) (ev_var rfl) (dp_ex e2 _ _ h1) (dp_ex e2 _ _ h2) ft1 ft2) (ee_cons (ep_is1 (ev_var rfl) (dp_ex e2 _ _ h1) ft1) (ee_cons (ep_is1 (ev_var rfl) (dp_ex e2 _ _ h1) ft1) (ee_cons (ep_is1 (ev_var rfl) (dp_ex e2 _ _ h1) ft1) (ee_cons (ep_is1 (ev_var rfl) (dp_ex e2 _ _ h1) ft1) ee_nil))))) (by simp) H2 (Ex.refl _) _ fun L3 v3 H3 n3 f3 hL3 p3 => ?_)
    have e3 := e2.trans f3
    exact s_retR (el_errcat rfl hL3 p3 (ee_cons (ep_is1 (ev_var rfl) (dp_ex e3 _ _ h1) ft1) (ee_cons (ep_is1 (ev_var rfl) (dp_ex e3 _ _ h1) ft1) (ee_cons (ep_is1 (ev_var rfl) (dp_ex e3 _ _ h1) ft1) (ee_cons (ep_is1 (ev_var rfl) (dp_ex e3 _ _ h1) ft1) ee_nil)))) (by simp) H3 (Ex.refl _) _ fun L4 v4 H4 n4 f4 hL4 p4 => q L4 v4 H4 (fresh_back e3 n4) (e3.trans f4) hL4 p4)
/-- a thing -/
def Th (K : PySem.W.Frag) (W : Addr → Prop) (v : V) (H : Hp) : Prop := ∃ d, DPw K W d v H ∧ fit d 2 = true
theorem th_ex {W : Addr → Prop} : ∀ (v : V) (H H' : Hp), Ex H H' → Th K W v H → Th K W v H' := fun _ _ _ e ⟨d, a, b⟩ => ⟨d, dpw_ex e a, b⟩
theorem th {W : Addr → Prop} {te : TE} {d : PyData} (h : EvP te σ H (DPw K W d)) (hf : fit d 2 = true) : EvP te σ H (Th K W) := h.imp fun _ _ _ f => ⟨d, f, hf⟩
def spThing (K : PySem.W.Frag) : Sp := fun vs H Q _ => ∃ (W : Addr → Prop) (p q : Addr), vs = [.ref p] ∧ PW W H p q ∧ ∀ v H', Oth p H H' → PW W H' p q → Th K W v H' → Q v H'
theorem ok_thing {f : Addr} {fd : FuncData} {k : Nat} (F : Fun K "_law_thing" "_law_thing" s_law_thing f fd) (C_law_draw : Cal P w K mg base 1 "_law_draw" spDraw []) (C_law_number : Cal P w K mg base 2 "_law_number" spNumber []) (hk : 2 ≤ k) : FnOk P w K mg base CX0 (k + 1) f fd ["pool"] (spThing K) := by
  have sc := sc_law_thing
  refine F.ok sc (fun vs H Q E h => ?_) (fun cdv A outer s H vs Q E hr h => ?_)
  · obtain ⟨W, p, q0, rfl, _⟩ := h
    rfl
  · obtain ⟨W, p, q0, rfl, x, q⟩ := h
    refine ⟨_, (pss_cons (ps_set (i := 1) sc.nd rfl (by first | exact Or.inl rfl | exact Or.inr rfl) (pe_c C_law_draw hr (by omega) (by rfl) (pa_cons (pv 0) (pa_cons pe_int pa_nil))))
      (pss_cons (ps_set (i := 2) sc.nd rfl (by first | exact Or.inl rfl | exact Or.inr rfl) (pe_c C_law_number hr (by omega) (by rfl) (pa_cons (pv 0) pa_nil)))
      (pss_one (ps_ret (pe_ix ix_list (pe_lst (pa_cons (pv 2) (pa_cons pe_non (pa_cons pe_bl (pa_cons pe_str (pa_cons (pe_tup (pa_cons pe_int (pa_cons (pv 2) pa_nil))) (pa_cons (pe_lst (pa_cons (pv 2) pa_nil)) (pa_cons pe_str (pa_cons (pe_un un_neg pe_int) pa_nil))))))))) (pv 1) (fun _ _ => rfl)))))), ?_⟩
    refine q_run ?_
    refine ⟨.ref p, rfl, p, q0, 8, rfl, by decide, by decide, x.pool, fun r H1 r0 r8 o1 x1p => ?_⟩
    have x1 := x.oth o1 x1p
    refine q_run ?_
    refine ⟨.ref p, rfl, p, q0, rfl, x1.pool, fun z H2 _ o2 x2p => ?_⟩
    have x2 := x1.oth o2 x2p
    have hp := x2.isP
    refine s_retR ?_
    refine em_lst (n := 8) (Φ := Th K W) th_ex hp (ew_cons th_ex (th (epc_ev (ev_var rfl) (.int _)) (by simp [fit])) (ew_cons th_ex (th (epc_ev ev_c .non) (by simp [fit])) (ew_cons th_ex (th (epc_ev ev_c (.bl _)) (by simp [fit])) (ew_cons th_ex (th (epc_ev ev_c (.str _)) (by simp [fit])) (ew_cons th_ex (th (epc_tup hp (edc_cons (epc_ev ev_c (.int _)) (edc_cons (epc_ev (ev_var rfl) (.int _)) edc_nil)) (by simp)) (by simp [fit, fitAll])) (ew_cons th_ex (th (epc_lst hp (edc_cons (epc_ev (ev_var rfl) (.int _)) edc_nil) (by simp)) (by simp [fit, fitAll])) (ew_cons th_ex (th (epc_ev ev_c (.str _)) (by simp [fit])) (ew_cons th_ex (th (epc_ev (ev_un ev_c ru_neg) (.int _)) (by simp [fit])) ew_nil)))))))) (by decide) H2 (Ex.refl _) _ fun L vs H3 e3 hL hLp hl hv => ?_
    have hr : r.toNat < vs.length := by omega
    refine ⟨.int r, rfl, L, vs, r, vs[r.toNat], rfl, rfl, sq_of hL, at_of (j := r.toNat) (by omega) (List.getElem?_eq_getElem hr), ?_⟩
    exact q _ _ ((o1.trans o2).trans (.of e3)) (x2.ex e3) (hv _ (List.getElem_mem hr))
end
/-! ### several except clauses, with and without names -/
section
open Evl
/-- an exception a lies on the ground of X's frame: what stood before the try's body stands -/
def Lain (X : Cx) (pins : List (Addr × Obj)) (σ : L2.St) (H : Hp) (a : Addr) (cls : Value) (d : Option Addr) (s : Shared) : Prop :=
  ∃ (B : Heap) (t : Shared), Inv X pins σ H t ∧ (∀ b o, t.heap.get? b = some o → b ∉ frs X.stack → B.get? b = some o) ∧ t.heap.UpToSlots s.heap ∧ HandSPX.FlyingZ B (X.env :: X.outer) a (Zc cls d) s.heap ∧ s.os = t.os ∧ AllBare s.gens
variable {X : Cx} {pins : List (Addr × Obj)} {σ : L2.St} {H : Hp} {a : Addr} {cls : Value} {d : Option Addr} {s : Shared}
theorem Lain.inv (l : Lain X pins σ H a cls d s) : Inv X pins σ H s := by
  obtain ⟨B, t, J, kept, upto, fly, eos, bare⟩ := l
  exact J.landed kept fly.1 upto eos bare
/-- the object, and that it is no frame -/
theorem Lain.obj (l : Lain X pins σ H a cls d s) (hf : X.env.frame = some X.env.locals) : ∃ oe vs, s.heap.get? a = some oe ∧ Zc cls d oe ∧ oe.data = .fields vs ∧ a ≠ X.env.locals ∧ a ∉ X.fs := by
  obtain ⟨B, t, J, kept, upto, fly, eos, bare⟩ := l
  obtain ⟨oe, vs, e1, e2, e3⟩ := fly.there
  have out : a ∉ frs (X.env :: X.outer) := fun m => by
    obtain ⟨_, o2, e4, no⟩ := fly.2.2.1.mem m
    have e5 := e1.symm.trans e4
    cases e5
    exact no _ e3
  refine ⟨oe, vs, e1, e2, e3, fun z => out ?_, fun m => out ?_⟩
  · exact List.mem_filterMap.mpr ⟨X.env, List.mem_cons_self, by rw [hf, z]⟩
  · obtain ⟨f, m1, m2⟩ := List.mem_filterMap.mp m
    exact List.mem_filterMap.mpr ⟨f, List.mem_cons_of_mem _ m1, m2⟩
theorem Lain.again (l : Lain X pins σ H a cls d s) {A : Around} {E : Value → Shared → Prop} {Q : Unit → Shared → Prop} (k : ∀ h, Lain X pins σ H a cls d { s with heap := h } → Q () { s with heap := h }) : wpAny (model X.prog X.w) A (setFlight (.ref a) none) Q E s := by
  obtain ⟨B, t, J, kept, upto, fly, eos, bare⟩ := l
  exact HandSPX.lands_againZ fly fun h fly2 upto2 => k h ⟨B, t, J, kept, upto.trans upto2, fly2, eos, bare⟩
/-- no clause takes it -/
theorem Lain.out (l : Lain X pins σ H a cls d s) (hs : X.stack = X.env :: X.outer) (hf : X.env.frame = some X.env.locals) {Wout : WX} (tk : Takes X Wout) (na : H a = none) (h : Wout cls d σ H) {D : Ends} : wpAny (model X.prog X.w) X.A (handleBy (.ref a) X.env []) (SP X pins D) X.xe s := by
  obtain ⟨B, t, J, kept, upto, fly, eos, bare⟩ := l
  have parts := fly.2.2.2
  obtain ⟨oe, vs, T, oT, ts, e1, _, e3, e4, _⟩ := parts
  have go : wpAny (model X.prog X.w) X.A (setFlight (.ref a) X.env.frame >>= fun _ => (throw (.ref a) : Sem Flow)) (SP X pins D) X.xe s := by
    refine wpAny_bind ?_
    rw [hf]
    refine HandSPX.setFlight_upZ fly fun h2 held upto2 => wpAny_throw (tk _ _ ⟨a, B, t, pins, σ, H, cls, d, rfl, J, kept, upto.trans upto2, .inr (.inr ?_), na, eos, bare, h⟩)
    rw [hs]
    exact held
  apply wpAny_handleBy_nil
  unfold PySem.passOn
  apply wpAny_bind
  apply wpAny_field e1 e3 e4
  have nn : (Value.ref T == Value.none) = false := rfl
  simp only [nn]
  first | exact go | exact wpAny_bind (wpAny_pure go)
/-- a clause: its class, the place of its name, its suite -/
abbrev Cl := Value × Option Nat × (Addr → Value → Option Addr → TS)
/-- behind the suite the name is gone -/
def forget (i : Nat) (D : Ends) : Ends := { nx := fun σ H => D.nx (σ.set i none) H, rt := D.rt, bk := fun σ H => D.bk (σ.set i none) H, ct := fun σ H => D.ct (σ.set i none) H }
/-- the suite of a clause, the exception a at hand -/
def suiteW (c : Cl) (a : Addr) (cls : Value) (d : Option Addr) (D : Ends) (σ : L2.St) (H : Hp) : Prop :=
  match c.2.1 with
  | none => c.2.2 a cls d D σ H
  | some i => c.2.2 a cls d (forget i D) (σ.set i (some (.ref a))) H
/-- what the clauses wish -/
def wMix (K : PySem.W.Frag) (Wout : WX) (D : Ends) : List Cl → WX
  | [] => Wout
  | c :: r => fun cls d σ H => ∃ b, PySem.W.exmOne K cls c.1 = some b ∧ (b = true → ∀ a, H a = none → suiteW c a cls d D σ H) ∧ (b = false → wMix K Wout D r cls d σ H)
inductive Clauses (X : Cx) : List ExceptHandler → List Cl → Prop
  | nil : Clauses X [] []
  | bare {x : Str} {c : Value} {ts : Addr → Value → Option Addr → TS} {b : Stmt} {bs : List Stmt} {p q : Pos} {hs : List ExceptHandler} {l : List Cl} (hc : Names X x c)
      (hsu : ∀ (a : Addr) (oe : Obj) (cls : Value) (d : Option Addr) (pn : List (Addr × Obj)), Zc cls d oe → (∃ vs, oe.data = .fields vs) → PSs (X.suite a ((a, oe) :: pn)) (b :: bs) (ts a cls d)) (r : Clauses X hs l) :
      Clauses X (.ExceptHandler (some (.Name x p)) none (b :: bs) q :: hs) ((c, none, ts) :: l)
  | named {x n : Str} {c : Value} {i : Nat} {ts : Addr → Value → Option Addr → TS} {b : Stmt} {bs : List Stmt} {p q : Pos} {hs : List ExceptHandler} {l : List Cl} (hN : X.N.Nodup) (hi : X.N[i]? = some n) (hln : X.env.kindOf n = some .local) (hc : Names X x c)
      (hsu : ∀ (a : Addr) (oe : Obj) (cls : Value) (d : Option Addr) (pn : List (Addr × Obj)), Zc cls d oe → (∃ vs, oe.data = .fields vs) → PSs (X.suite a ((a, oe) :: pn)) (b :: bs) (ts a cls d)) (r : Clauses X hs l) :
      Clauses X (.ExceptHandler (some (.Name x p)) (some n) (b :: bs) q :: hs) ((c, some i, ts) :: l)
/-- the clause's test -/
theorem Lain.asked (l : Lain X pins σ H a cls d s) (hf : X.env.frame = some X.env.locals) (na : H a = none) {x : Str} {c : Value} {p : Pos} {b : Bool} (hc : Names X x c) (hb : PySem.W.exmOne X.K cls c = some b) {R : Bool → Shared → Prop} {E E' : Value → Shared → Prop} (k : R b s) :
    wpAny (model X.prog X.w) (X.A.mark (some (.ref a))) (eval (.Name x p) X.env) (fun v t => wpAny (model X.prog X.w) (X.A.mark (some (.ref a))) (excMatches (.ref a) v) R E t) E' s := by
  obtain ⟨oe, vs, e1, e2, e3, e4, e5⟩ := l.obj hf
  have S := l.inv.suite e1 e3 na e4 e5
  have kind : PySem.W.Looks (model X.prog X.w) s.heap (typeOf (.ref a)) cls := fun A Q E t kp q => wpAny_typeOf_ref (kp _ _ e1) (by rw [e2.1]; exact q)
  have meets := PySem.W.exm_one (M := model X.prog X.w) l.inv.kIn kind hb
  obtain ⟨g, nd, own | ⟨none_, boot, nn⟩⟩ := hc
  · exact ld_glob (X := X.suite a ((a, oe) :: (X.pn ++ pins))) S g own (meets.here k) nd
  · exact ld_blt (X := X.suite a ((a, oe) :: (X.pn ++ pins))) S g none_ boot (meets.here k) nn nd
/-- the clauses, one after the other -/
theorem Lain.handled {D : Ends} (hs : X.stack = X.env :: X.outer) (hf : X.env.frame = some X.env.locals) {Wout : WX} (tk : Takes X Wout) (na : H a = none) {hds : List ExceptHandler} {cl : List Cl} (hc : Clauses X hds cl) :
    ∀ {s : Shared}, Lain X pins σ H a cls d s → wMix X.K Wout D cl cls d σ H → wpAny (model X.prog X.w) X.A (handleBy (.ref a) X.env hds) (SP X pins D) X.xe s := by
  induction hc with
  | nil => exact fun l w => l.out hs hf tk na w
  | bare hc hsu r ih =>
    rintro s l ⟨b, hb, yes, no⟩
    apply wpAny_handleBy_cons _ (fun z => by cases z)
    apply codeAny_handlers_test
    apply l.asked hf na hc hb
    cases b with
    | false => exact ih l (no rfl)
    | true =>
      apply codeAny_handlers_suite
      refine l.again fun h l2 => ?_
      obtain ⟨oe, vs, e1, e2, e3, e4, e5⟩ := l2.obj hf
      have ok := l2.inv.ok
      have S := l2.inv.suite e1 e3 na e4 e5
      refine wpAny_mono ((hsu a oe cls d (X.pn ++ pins) e2 ⟨_, e3⟩).run [] _ _ H D S (yes rfl a na)) (fun fl t sp => ?_) (fun _ _ z => z.elim)
      cases fl with
      | ret u => obtain ⟨v, σ2, H2, S2, rv, q2⟩ := sp; exact ⟨v, σ2, H2, S2.unsuite ok, rv, q2⟩
      | next => obtain ⟨σ2, H2, S2, q2⟩ := sp; exact ⟨σ2, H2, S2.unsuite ok, q2⟩
      | brk => obtain ⟨σ2, H2, S2, q2⟩ := sp; exact ⟨σ2, H2, S2.unsuite ok, q2⟩
      | cont => obtain ⟨σ2, H2, S2, q2⟩ := sp; exact ⟨σ2, H2, S2.unsuite ok, q2⟩
  | @named x n c i ts b0 bs p q hs2 l2 hN hi hln hc hsu r ih =>
    rintro s l ⟨b, hb, yes, no⟩
    apply wpAny_handleBy_cons _ (fun z => by cases z)
    apply codeAny_handlers_test
    apply l.asked hf na hc hb
    cases b with
    | false => exact ih l (no rfl)
    | true =>
      apply codeAny_handlers_suite_as
      refine l.again fun h l2 => ?_
      obtain ⟨oe, vs, e1, e2, e3, e4, e5⟩ := l2.obj hf
      have ok := l2.inv.ok
      have S := l2.inv.suite e1 e3 na e4 e5
      refine store_ok (X := X.suite a ((a, oe) :: (X.pn ++ pins))) (v := .ref a) S hN hi (.inl hln) rfl (fun t1 S1 => ?_) (.inr hln)
      refine wpAny_mono ((hsu a oe cls d (X.pn ++ pins) e2 ⟨_, e3⟩).run [] t1 _ H (forget i D) S1 (yes rfl a na)) (fun fl t sp => ?_) (fun _ _ z => z.elim)
      cases fl with
      | ret u => obtain ⟨v, σ2, H2, S2, rv, q2⟩ := sp; exact gone_ok (S2.unsuite ok) hN hi hln fun t2 J2 => ⟨v, _, H2, J2, rv, q2⟩
      | next => obtain ⟨σ2, H2, S2, q2⟩ := sp; exact gone_ok (S2.unsuite ok) hN hi hln fun t2 J2 => ⟨_, H2, J2, q2⟩
      | brk => obtain ⟨σ2, H2, S2, q2⟩ := sp; exact gone_ok (S2.unsuite ok) hN hi hln fun t2 J2 => ⟨_, H2, J2, q2⟩
      | cont => obtain ⟨σ2, H2, S2, q2⟩ := sp; exact gone_ok (S2.unsuite ok) hN hi hln fun t2 J2 => ⟨_, H2, J2, q2⟩
/-- try: body, and clauses -/
theorem ps_try_mix {body : List Stmt} {h0 : ExceptHandler} {hds : List ExceptHandler} {cl : List Cl} {pos : Pos} {tb : WX → TS} {Wout : WX} (hs : X.stack = X.env :: X.outer) (hf : X.env.frame = some X.env.locals) (tk : Takes X Wout)
    (hb : ∀ (W : WX) (pn : List (Addr × Obj)) (xe : Value → Shared → Prop), Takes (X.tr pn xe) W → PassesOwn (model X.prog X.w) X.A X.env xe → PSs (X.tr pn xe) body (tb W)) (hc : Clauses X (h0 :: hds) cl) : PS X (.Try body (h0 :: hds) [] [] pos) (fun D σ H => tb (wMix X.K Wout D cl) D σ H) := by
  constructor
  intro pins s σ H D I h
  have ok := I.ok
  have frames : X.A.frames = some (X.env :: X.outer) := ok.frames.trans (by rw [hs])
  apply wpAny_Try_except
  have B := (hb (wMix X.K Wout D cl) (X.pn ++ pins) (fun e t1 => wpAny (model X.prog X.w) X.A (noteFrame e X.env) (fun _ t2 => wpAny (model X.prog X.w) X.A (setFlight e none) (fun _ t3 => wpAny (model X.prog X.w) X.A (handleBy e X.env (h0 :: hds)) (SP X pins D) X.xe t3) X.xe t2) X.xe t1) (fun u s' air => by
    obtain ⟨a, B, t, pins', σ', H', cls, d, rfl, J, kept, upto, sky, na, eos, bare, wish⟩ := air
    have J0 : Inv X pins σ' H' t := J.ofTry ok
    rw [show (X.tr (X.pn ++ pins) _).stack = X.env :: X.outer from hs] at sky
    exact Sky.land (M := model X.prog X.w) (A := X.A) (E₁ := X.xe) (Q := fun _ t3 => wpAny (model X.prog X.w) X.A (handleBy (.ref a) X.env (h0 :: hds)) (SP X pins D) X.xe t3) Zc.steady frames hf sky fun h3 fly upto3 => Lain.handled hs hf tk na hc ⟨B, t, J0, kept, upto.trans upto3, fly, eos, bare⟩ wish) PassesOwn.looking).run [] s σ H D (I.toTry _) h
  refine wpAny_mono B (fun fl t sp => ?_) (fun e t he => he)
  cases fl with
  | next => obtain ⟨σ2, H2, J2, q2⟩ := sp; exact wpAny_execs_nil ⟨σ2, H2, J2.ofTry ok, q2⟩
  | ret u => obtain ⟨v, σ2, H2, J2, rv, q2⟩ := sp; exact ⟨v, σ2, H2, J2.ofTry ok, rv, q2⟩
  | brk => obtain ⟨σ2, H2, J2, q2⟩ := sp; exact ⟨σ2, H2, J2.ofTry ok, q2⟩
  | cont => obtain ⟨σ2, H2, J2, q2⟩ := sp; exact ⟨σ2, H2, J2.ofTry ok, q2⟩
end
theorem lv_len {n : Nat} {xs : List PyData} (h : xs.length ≤ 10000) (g : fitAll xs n = true) : fit (.list xs) (n + 1) = true := by
  rw [fit, decide_eq_true h, g]; rfl
theorem lv_tup {n : Nat} {xs : List PyData} (h : xs.length ≤ 10000) (g : fitAll xs n = true) : fit (.tuple xs) (n + 1) = true := by
  rw [fit, decide_eq_true h, g]; rfl
/-! ### what the law compares may be compared -/
mutual
theorem fit_depth : ∀ (d : PyData) (n : Nat), fit d n = true → PyData.depth d ≤ n
  | .none, _, _ => by simp [PyData.depth]
  | .bool _, _, _ => by simp [PyData.depth]
  | .int _, _, _ => by simp [PyData.depth]
  | .str _, _, _ => by simp [PyData.depth]
  | .list xs, 0, h => by simp [fit] at h
  | .list xs, n + 1, h => by
    rw [fit, Bool.and_eq_true] at h
    have := fit_depthAll xs n h.2
    rw [PyData.depth]; omega
  | .tuple xs, 0, h => by simp [fit] at h
  | .tuple xs, n + 1, h => by
    rw [fit, Bool.and_eq_true] at h
    have := fit_depthAll xs n h.2
    rw [PyData.depth]; omega
  | .dict _, _, h => by simp [fit] at h
theorem fit_depthAll : ∀ (ds : List PyData) (n : Nat), fitAll ds n = true → PyData.depthAll ds ≤ n
  | [], _, _ => by simp [PyData.depthAll]
  | d :: ds, n, h => by
    rw [fitAll, Bool.and_eq_true] at h
    have h1 := fit_depth d n h.1
    have h2 := fit_depthAll ds n h.2
    rw [PyData.depthAll]; omega
end
theorem shaped_of {d : PyData} {n : Nat} (h : fit d n = true) (hn : n ≤ 64) (hl : d.canLay0 = true) : SeqAt.shaped d = true := by
  rw [SeqAt.shaped, hl, Bool.true_and, decide_eq_true_eq]
  have := fit_depth d n h
  omega
theorem canLay_ints : ∀ l : List Int, PyData.canLayAll0 (l.map PyData.int) = true
  | [] => by simp [PyData.canLayAll0]
  | i :: r => by
    rw [List.map_cons, PyData.canLayAll0, canLay_ints r, Bool.and_true]
    simp [PyData.canLay0]
theorem depth_ints : ∀ l : List Int, PyData.depthAll (l.map PyData.int) = 0
  | [] => by simp [PyData.depthAll]
  | i :: r => by
    rw [List.map_cons, PyData.depthAll, depth_ints r]
    simp [PyData.depth]
theorem lay_LI (l : List Int) : (LI l).canLay0 = true := by
  rw [PyData.canLay0]; exact canLay_ints l
mutual
theorem lay_S : ∀ s : Stm, (toD s).canLay0 = true
  | .set k r => by
    rw [toD, PyData.canLay0]
    simp only [PyData.canLayAll0, lay_LI, Bool.and_true]
    simp only [PyData.canLay0, Bool.and_true]
    decide +kernel
  | .carry r => by
    rw [toD, PyData.canLay0]
    simp only [PyData.canLayAll0, lay_LI, Bool.and_true]
    decide +kernel
  | .keep cs b => by
    rw [toD, PyData.canLay0]
    have hb := lay_L b
    have h1 : (PyData.list (toDs b)).canLay0 = true := by rw [PyData.canLay0]; exact hb
    simp only [PyData.canLayAll0, lay_LI, h1, Bool.and_true]
    decide +kernel
  | .either a b => by
    rw [toD, PyData.canLay0]
    have h1 : (PyData.list (toDs a)).canLay0 = true := by rw [PyData.canLay0]; exact lay_L a
    have h2 : (PyData.list (toDs b)).canLay0 = true := by rw [PyData.canLay0]; exact lay_L b
    simp only [PyData.canLayAll0, h1, h2, Bool.and_true]
    decide +kernel
  | .again b => by
    rw [toD, PyData.canLay0]
    have h2 : (PyData.list (toDs b)).canLay0 = true := by rw [PyData.canLay0]; exact lay_L b
    simp only [PyData.canLayAll0, h2, Bool.and_true]
    decide +kernel
  | .call p r a b => by
    rw [toD, PyData.canLay0]
    have h1 : (PyData.list (toDs a)).canLay0 = true := by rw [PyData.canLay0]; exact lay_L a
    have h2 : (PyData.list (toDs b)).canLay0 = true := by rw [PyData.canLay0]; exact lay_L b
    have h3 : (PyData.list [.list (toDs a), .list (toDs b)]).canLay0 = true := by rw [PyData.canLay0]; simp only [PyData.canLayAll0, h1, h2]; rfl
    simp only [PyData.canLayAll0, lay_LI, h3, Bool.and_true]
    simp only [PyData.canLay0, Bool.and_true]
    decide +kernel
  | .fin w => by
    rw [toD, PyData.canLay0]
    simp only [PyData.canLayAll0, PyData.canLay0, Bool.and_true]
    decide +kernel
theorem lay_L : ∀ ss : List Stm, PyData.canLayAll0 (toDs ss) = true
  | [] => by rw [toDs]; simp [PyData.canLayAll0]
  | s :: r => by rw [toDs, PyData.canLayAll0, lay_S s, lay_L r]; rfl
end
/-! ### deeper is as good -/
mutual
theorem fit_mono : ∀ (d : PyData) (n m : Nat), fit d n = true → n ≤ m → fit d m = true
  | .list xs, n, m, h, hm => by
    obtain ⟨k, rfl, l, g⟩ := fit_list h
    obtain ⟨j, rfl⟩ : ∃ j, m = j + 1 := ⟨m - 1, by omega⟩
    rw [fit, fitAll_mono xs k j g (by omega), Bool.and_true, decide_eq_true_eq]; exact l
  | .tuple xs, n, m, h, hm => by
    obtain ⟨k, rfl, l, g⟩ := fit_tuple h
    obtain ⟨j, rfl⟩ : ∃ j, m = j + 1 := ⟨m - 1, by omega⟩
    rw [fit, fitAll_mono xs k j g (by omega), Bool.and_true, decide_eq_true_eq]; exact l
  | .dict _, n, m, h, hm => by rw [fit] at h; cases h
  | .none, n, m, h, hm => by simp [fit]
  | .bool _, n, m, h, hm => by simp [fit]
  | .int _, n, m, h, hm => by simp [fit]
  | .str _, n, m, h, hm => by simp [fit]
theorem fitAll_mono : ∀ (ds : List PyData) (n m : Nat), fitAll ds n = true → n ≤ m → fitAll ds m = true
  | [], n, m, h, hm => by rw [fitAll]
  | d :: r, n, m, h, hm => by
    rw [fitAll, Bool.and_eq_true] at h
    rw [fitAll, fit_mono d n m h.1 hm, fitAll_mono r n m h.2 hm]; rfl
end
/-! ### the law of the errors -/
abbrev slaw : Stmt := topS 43
theorem sclaw : FnScope ["script", "pool", "first", "second", "made", "at", "other", "book", "told", "caught", "e", "k"] ["script"] (defScope slaw) := ⟨rfl, rfl, rfl, by decide +kernel, rfl, by decide +kernel, by decide +kernel⟩
theorem room64 {k : Nat} {A : Around} (r : Room k A) : A.units + 64 < cLine := by have := r.un; omega
section
variable {P : Program} {w : World} {K : PySem.W.Frag} {mg : Str → Option Value} {base : Heap} {σ : L2.St} {H H' : Hp} {E : XK}
theorem has0 : Has (fun _ => False) H := fun _ w => w.elim
theorem dpw0 {te : TE} {d : PyData} (h : EvP te σ H (DP K d)) : EvP te σ H (DPw K (fun _ => False) d) := h.imp fun v H2 _ f => dp_ex (fun a o h => cw_o h id) _ _ f
theorem dp0 {te : TE} {d : PyData} (h : EvP te σ H (DPw K (fun _ => False) d)) : EvP te σ H (DP K d) := h.imp fun v H2 _ f => dp_ex cw_ex _ _ f
theorem ep_errF {te : TE} {C : Addr} {n : Str} {d : PyData} (T : ErrC K C) (hno : PySem.W.findIn K (.ref C) n = some none) (h : EvP te σ H fun v H => ∃ a fs u, v = .ref a ∧ ErrAt H a C fs ∧ fs.lookup n = some u ∧ Dp K H u d) : EvP (tErrF K n te) σ H (DP K d) := fun H1 e Q q =>
  h H1 e _ fun v H2 e2 ⟨a, fs, u, hv, hE, hl, hd⟩ => ⟨a, C, fs, u, hv, hE, T, hno, hl, q u H2 e2 hd⟩
theorem ep_fld1 {te : TE} {v : V} {d : PyData} {C : Addr} {n : Str} (T : ErrC K C) (hno : PySem.W.findIn K (.ref C) n = some none) (h : Ev te σ H v) (hd : Dp K H v d) (hf : fit d 14 = true) : EvP (tErrF K n (tErrI C (spE1 K C n) (tCons te tNil))) σ H (DPw K (fun _ => False) d) :=
  dpw0 (ep_errF T hno ((ep_err1 h hd hf).imp fun v H2 _ ⟨a, u, h1, h2, h3⟩ => ⟨a, _, u, h1, h2, by simp [List.lookup], h3⟩))
theorem dpa_bools : ∀ bs : List Bool, DpAll K H (bs.map V.bl) (bs.map PyData.bool)
  | [] => .nil
  | b :: r => .cons (.bl b) (dpa_bools r)
theorem fit_bools : ∀ (bs : List Bool) (n : Nat), fitAll (bs.map PyData.bool) n = true
  | [], n => by simp [fitAll]
  | b :: r, n => by rw [List.map_cons, fitAll, fit_bools r n]; simp [fit]
theorem lay_bools : ∀ bs : List Bool, PyData.canLayAll0 (bs.map PyData.bool) = true
  | [] => by simp [PyData.canLayAll0]
  | b :: r => by rw [List.map_cons, PyData.canLayAll0, lay_bools r]; simp [PyData.canLay0]
theorem shaped_bools {bs : List Bool} (h : bs.length ≤ 10000) : SeqAt.shaped (.list (bs.map PyData.bool)) = true := shaped_of (n := 1) (lv_len (by rw [List.length_map]; exact h) (fit_bools _ _)) (by decide) (by rw [PyData.canLay0]; exact lay_bools bs)
theorem eqv_bools (bs : List Bool) : PyData.eqv (.list (bs.map PyData.bool)) (.list (bs.map PyData.bool)) = true := by
  rw [PyData.eqv]
  induction bs with
  | nil => simp [PyData.eqvAll]
  | cons b r ih => rw [List.map_cons, PyData.eqvAll, ih, Bool.and_true]; cases b <;> simp [PyData.eqv]
theorem kinds_are {CA : List Addr} (nd : CA.Nodup) {i : Nat} (hi : i < CA.length) : CA.map (fun C => CA[i] == C) = (List.range CA.length).map fun k : Nat => decide (V.int (k : Int) = V.int (i : Int)) := by
  refine List.ext_getElem (by simp) fun j h1 h2 => ?_
  rw [List.length_map] at h1
  rw [List.getElem_map, List.getElem_map, List.getElem_range]
  by_cases h : j = i
  · subst h; simp
  · rw [decide_eq_false fun z => h (by have := V.int.inj z; omega), beq_eq_false_iff_ne]
    exact fun z => h ((List.getElem_inj nd).mp z).symm
theorem paired_getE {α β : Type} {F : α → β → Prop} : ∀ {a : List α} {b : List β}, Paired F a b → ∀ {i : Nat} {x : α} (h : i < b.length), a[i]? = some x → F x b[i]
  | _, _, .cons h _, 0, _, _, e => by
    have e := Option.some.inj e
    subst e; exact h
  | _, _, .cons _ r, i + 1, _, h, e => paired_getE r (by simpa using h) (by simpa using e)
theorem kinds_none {CA : List Addr} {B : Addr} (h : B ∉ CA) : inV (.bl true) (CA.map fun C => V.bl (B == C)) = false := by
  rw [List.map_congr_left (g := fun _ => V.bl false) fun C hC => by rw [beq_eq_false_iff_ne.mpr fun z => h (by rw [z]; exact hC)]]
  clear h
  induction CA with
  | nil => rfl
  | cons a r ih => rw [List.map_cons, inV, List.any_cons]; rw [inV] at ih; rw [ih]; rfl
def spLaw (K : PySem.W.Frag) : Sp := fun vs H Q _ => ∃ (a : Addr) (ns : List Int), vs = [.ref a] ∧ SqL K H a (ns.map V.int) ∧ ∀ H', Q (.bl true) H'
theorem ok_law {aB a_NoBook f_NoBook : Addr} {fd_NoBook : FuncData} {a_NoRun f_NoRun : Addr} {fd_NoRun : FuncData} {a_NoHistory f_NoHistory : Addr} {fd_NoHistory : FuncData} {a_NoVectors f_NoVectors : Addr} {fd_NoVectors : FuncData} {a_NoEquations f_NoEquations : Addr} {fd_NoEquations : FuncData} {a_NoEquation f_NoEquation : Addr} {fd_NoEquation : FuncData} {a_NoSender f_NoSender : Addr} {fd_NoSender : FuncData} {a_TooMany f_TooMany : Addr} {fd_TooMany : FuncData} {a_NoText f_NoText : Addr} {fd_NoText : FuncData} {f : Addr} {fd : FuncData} {k : Nat} {CA : List Addr} (F : Fun K "law" "law" slaw f fd) (z_len : mg "len" = none) (z_range : mg "range" = none) (z_isinstance : mg "isinstance" = none) (z_ValueError : mg "ValueError" = none)
    (c_NoBook : mg "NoBook" = some (.ref a_NoBook)) (T_NoBook : OexC K a_NoBook) (i_NoBook : PySem.W.findIn K (.ref a_NoBook) "__init__" = some (some (.ref f_NoBook))) (t_NoBook : PySem.W.typeIn K (.ref f_NoBook) = some (.type "function")) (F_NoBook : FnOk P w K mg base CX0 16 f_NoBook fd_NoBook ["self", "procedure", "path"] (spE2 K a_NoBook "procedure" "path")) (b_NoBook : Binds K fd_NoBook ["self", "procedure", "path"] [])
    (c_NoRun : mg "NoRun" = some (.ref a_NoRun)) (T_NoRun : OexC K a_NoRun) (i_NoRun : PySem.W.findIn K (.ref a_NoRun) "__init__" = some (some (.ref f_NoRun))) (t_NoRun : PySem.W.typeIn K (.ref f_NoRun) = some (.type "function")) (F_NoRun : FnOk P w K mg base CX0 16 f_NoRun fd_NoRun ["self", "index"] (spE1 K a_NoRun "index")) (b_NoRun : Binds K fd_NoRun ["self", "index"] [])
    (E_NoRun : ErrC K a_NoRun) (n_NoRun : PySem.W.findIn K (.ref a_NoRun) "index" = some none)
    (c_NoHistory : mg "NoHistory" = some (.ref a_NoHistory)) (T_NoHistory : OexC K a_NoHistory) (i_NoHistory : PySem.W.findIn K (.ref a_NoHistory) "__init__" = some (some (.ref f_NoHistory))) (t_NoHistory : PySem.W.typeIn K (.ref f_NoHistory) = some (.type "function")) (F_NoHistory : FnOk P w K mg base CX0 16 f_NoHistory fd_NoHistory ["self", "index"] (spE1 K a_NoHistory "index")) (b_NoHistory : Binds K fd_NoHistory ["self", "index"] [])
    (E_NoHistory : ErrC K a_NoHistory) (n_NoHistory : PySem.W.findIn K (.ref a_NoHistory) "index" = some none)
    (c_NoVectors : mg "NoVectors" = some (.ref a_NoVectors)) (T_NoVectors : OexC K a_NoVectors) (i_NoVectors : PySem.W.findIn K (.ref a_NoVectors) "__init__" = some (some (.ref f_NoVectors))) (t_NoVectors : PySem.W.typeIn K (.ref f_NoVectors) = some (.type "function")) (F_NoVectors : FnOk P w K mg base CX0 16 f_NoVectors fd_NoVectors ["self", "index"] (spE1 K a_NoVectors "index")) (b_NoVectors : Binds K fd_NoVectors ["self", "index"] [])
    (E_NoVectors : ErrC K a_NoVectors) (n_NoVectors : PySem.W.findIn K (.ref a_NoVectors) "index" = some none)
    (c_NoEquations : mg "NoEquations" = some (.ref a_NoEquations)) (T_NoEquations : OexC K a_NoEquations) (i_NoEquations : PySem.W.findIn K (.ref a_NoEquations) "__init__" = some (some (.ref f_NoEquations))) (t_NoEquations : PySem.W.typeIn K (.ref f_NoEquations) = some (.type "function")) (F_NoEquations : FnOk P w K mg base CX0 16 f_NoEquations fd_NoEquations ["self", "index"] (spE1 K a_NoEquations "index")) (b_NoEquations : Binds K fd_NoEquations ["self", "index"] [])
    (E_NoEquations : ErrC K a_NoEquations) (n_NoEquations : PySem.W.findIn K (.ref a_NoEquations) "index" = some none)
    (c_NoEquation : mg "NoEquation" = some (.ref a_NoEquation)) (T_NoEquation : OexC K a_NoEquation) (i_NoEquation : PySem.W.findIn K (.ref a_NoEquation) "__init__" = some (some (.ref f_NoEquation))) (t_NoEquation : PySem.W.typeIn K (.ref f_NoEquation) = some (.type "function")) (F_NoEquation : FnOk P w K mg base CX0 16 f_NoEquation fd_NoEquation ["self", "place"] (spE1 K a_NoEquation "place")) (b_NoEquation : Binds K fd_NoEquation ["self", "place"] [])
    (E_NoEquation : ErrC K a_NoEquation) (n_NoEquation : PySem.W.findIn K (.ref a_NoEquation) "place" = some none)
    (c_NoSender : mg "NoSender" = some (.ref a_NoSender)) (T_NoSender : OexC K a_NoSender) (i_NoSender : PySem.W.findIn K (.ref a_NoSender) "__init__" = some (some (.ref f_NoSender))) (t_NoSender : PySem.W.typeIn K (.ref f_NoSender) = some (.type "function")) (F_NoSender : FnOk P w K mg base CX0 16 f_NoSender fd_NoSender ["self", "state"] (spE1 K a_NoSender "state")) (b_NoSender : Binds K fd_NoSender ["self", "state"] [])
    (E_NoSender : ErrC K a_NoSender) (n_NoSender : PySem.W.findIn K (.ref a_NoSender) "state" = some none)
    (c_TooMany : mg "TooMany" = some (.ref a_TooMany)) (T_TooMany : OexC K a_TooMany) (i_TooMany : PySem.W.findIn K (.ref a_TooMany) "__init__" = some (some (.ref f_TooMany))) (t_TooMany : PySem.W.typeIn K (.ref f_TooMany) = some (.type "function")) (F_TooMany : FnOk P w K mg base CX0 16 f_TooMany fd_TooMany ["self", "many"] (spE1 K a_TooMany "many")) (b_TooMany : Binds K fd_TooMany ["self", "many"] [])
    (E_TooMany : ErrC K a_TooMany) (n_TooMany : PySem.W.findIn K (.ref a_TooMany) "many" = some none)
    (c_NoText : mg "NoText" = some (.ref a_NoText)) (T_NoText : OexC K a_NoText) (i_NoText : PySem.W.findIn K (.ref a_NoText) "__init__" = some (some (.ref f_NoText))) (t_NoText : PySem.W.typeIn K (.ref f_NoText) = some (.type "function")) (F_NoText : FnOk P w K mg base CX0 16 f_NoText fd_NoText ["self", "line"] (spE1 K a_NoText "line")) (b_NoText : Binds K fd_NoText ["self", "line"] [])
    (E_NoText : ErrC K a_NoText) (n_NoText : PySem.W.findIn K (.ref a_NoText) "line" = some none)
    (E_NoBook : ErrC K a_NoBook) (nB_procedure : PySem.W.findIn K (.ref a_NoBook) "procedure" = some none) (nB_path : PySem.W.findIn K (.ref a_NoBook) "path" = some none) (TX : XfC K a_NoBook) (eB : PySem.W.exmOne K (.ref a_NoBook) (.ref aB) = some true)
    (c_BoardError : mg "BoardError" = some (.ref aB)) (x_BoardError : PySem.W.excIn K aB [.type "ValueError", .type "Exception", .type "BaseException", .type "object"] "ValueError.__new__" = true) (k_BoardError : PySem.W.keepIn K (.ref aB) = true)
    (hT : ∀ D ∈ aB :: CA, ErrC K D) (hB : ∀ D ∈ CA, PySem.W.kitOne K (.ref D) (.ref aB) = some true) (hV : ∀ D ∈ aB :: CA, PySem.W.kitOne K (.ref D) (.type "ValueError") = some true) (nd : (aB :: CA).Nodup) (hlC : CA.length ≤ 1000)
    (C_law_pool : Cal P w K mg base 1 "_law_pool" (spPool K) []) (C_law_thing : Cal P w K mg base 3 "_law_thing" (spThing K) []) (C_law_made : Cal P w K mg base 18 "_law_made" (spMade K CA) []) (C_law_kinds : Cal P w K mg base 1 "_law_kinds" (spKinds K CA (aB :: CA)) []) (C_law_foreign : Cal P w K mg base 1 "_law_foreign" (spForeign CA) []) (C_law_same : Cal P w K mg base 15 "_law_same" (spSame K 15) []) (hk : 18 ≤ k) :
    FnOk P w K mg base CX0 (k + 1) f fd ["script"] (spLaw K) := by
  have sc := sclaw
  refine F.ok sc (fun vs H Q E h => ?_) (fun cdv A outer s H vs Q E hr h => ?_)
  · obtain ⟨a, ns, rfl, _⟩ := h
    rfl
  · obtain ⟨a, ns, rfl, hS, q⟩ := h
    refine ⟨_, (pss_cons (ps_set (i := 1) sc.nd rfl (by first | exact Or.inl rfl | exact Or.inr rfl) (pe_c C_law_pool hr (by omega) (by rfl) (pa_cons (pv 0) pa_nil)))
      (pss_cons (ps_set (i := 2) sc.nd rfl (by first | exact Or.inl rfl | exact Or.inr rfl) (pe_c C_law_thing hr (by omega) (by rfl) (pa_cons (pv 1) pa_nil)))
      (pss_cons (ps_set (i := 3) sc.nd rfl (by first | exact Or.inl rfl | exact Or.inr rfl) (pe_c C_law_thing hr (by omega) (by rfl) (pa_cons (pv 1) pa_nil)))
      (pss_cons (ps_set (i := 4) sc.nd rfl (by first | exact Or.inl rfl | exact Or.inr rfl) (pe_c C_law_made hr (by omega) (by rfl) (pa_cons (pv 2) (pa_cons (pv 3) pa_nil))))
      (pss_cons (ps_for PassesOwn.never rfl (pi_range1 (by rfl) z_range (pa_cons (pe_callB call_len_seq (by rfl) z_len (by decide +kernel) (pa_cons (pv 4) pa_nil)) pa_nil)) (pg_name (i := 5) sc.nd rfl (by first | exact Or.inl rfl | exact Or.inr rfl))
      (pss_cons (ps_if (PW.pt (pw_or (pt_not (pt_val (pe_callB call_isX (by rfl) z_isinstance (by decide +kernel) (pa_cons (pe_ix ix_list (pv 4) (pv 5) (fun _ _ => rfl)) (pa_cons (pe_glob (v := .ref aB) (by rfl) c_BoardError rfl) pa_nil))))) (pw_or (pt_not (pt_val (pe_callB call_isX (by rfl) z_isinstance (by decide +kernel) (pa_cons (pe_ix ix_list (pv 4) (pv 5) (fun _ _ => rfl)) (pa_cons (pe_bltn (v := .ty "ValueError") (by rfl) z_ValueError (by decide +kernel) rfl) pa_nil))))) (pw_or1 (pt_val (pe_c C_law_foreign hr (by omega) (by rfl) (pa_cons (pe_ix ix_list (pv 4) (pv 5) (fun _ _ => rfl)) pa_nil)))))))
      (pss_one (ps_ret pe_bl))
      pss_nil)
      (pss_one (ps_if (pt_cmpR (op_neD (room64 hr)) (pe_c C_law_kinds hr (by omega) (by rfl) (pa_cons (pe_ix ix_list (pv 4) (pv 5) (fun _ _ => rfl)) pa_nil)) (pe_lc (own := [("k", 11)]) (by rfl) sc.nd (pi_range1 (by rfl) z_range (pa_cons (pe_callB call_len_seq (by rfl) z_len (by decide +kernel) (pa_cons (pv 4) pa_nil)) pa_nil)) (blkOk_by (own := [("k", 11)]) (N := ["script", "pool", "first", "second", "made", "at", "other", "book", "told", "caught", "e", "k"]) (sc := defScope slaw) (by decide +kernel)) (fun _ _ _ _ _ => (pg_name (i := 11) sc.nd rfl (by first | exact Or.inl rfl | exact Or.inr rfl))) (fun _ _ _ _ _ => pts_nil) (fun _ _ _ _ _ => (pe_cmpR op_eq (pv 11) (pv 5) (nomark _)))) (nomark _))
      (pss_one (ps_ret pe_bl))
      pss_nil))))
      (pss_cons (ps_set (i := 6) sc.nd rfl (by first | exact Or.inl rfl | exact Or.inr rfl) (pe_err0 PySem.F.excBase_ValueError x_BoardError c_BoardError k_BoardError (by rfl)))
      (pss_cons (ps_if (PW.pt (pw_or (pt_not (pt_val (pe_callB call_isX (by rfl) z_isinstance (by decide +kernel) (pa_cons (pv 6) (pa_cons (pe_bltn (v := .ty "ValueError") (by rfl) z_ValueError (by decide +kernel) rfl) pa_nil))))) (pw_or1 (pt_cmpR op_in_seq pe_bl (pe_c C_law_kinds hr (by omega) (by rfl) (pa_cons (pv 6) pa_nil)) (by rfl)))))
      (pss_one (ps_ret pe_bl))
      pss_nil)
      (pss_cons (ps_set (i := 7) sc.nd rfl (by first | exact Or.inl rfl | exact Or.inr rfl) (pe_errI T_NoBook i_NoBook t_NoBook F_NoBook (hr.mono (by omega)) b_NoBook pass0 (by rfl) c_NoBook (pa_cons (pv 2) (pa_cons (pv 3) pa_nil))))
      (pss_cons (ps_if (pt_not (pt_val (pe_c C_law_same hr (by omega) (by rfl) (pa_cons (pe_lst (pa_cons (pe_errF (pv 7)) (pa_cons (pe_errF (pv 7)) pa_nil))) (pa_cons (pe_lst (pa_cons (pv 2) (pa_cons (pv 3) pa_nil))) pa_nil)))))
      (pss_one (ps_ret pe_bl))
      pss_nil)
      (pss_cons (ps_set (i := 8) sc.nd rfl (by first | exact Or.inl rfl | exact Or.inr rfl) (pe_lst (pa_cons (pe_errF (pe_errI T_NoRun i_NoRun t_NoRun F_NoRun (hr.mono (by omega)) b_NoRun pass0 (by rfl) c_NoRun (pa_cons (pv 2) pa_nil))) (pa_cons (pe_errF (pe_errI T_NoHistory i_NoHistory t_NoHistory F_NoHistory (hr.mono (by omega)) b_NoHistory pass0 (by rfl) c_NoHistory (pa_cons (pv 2) pa_nil))) (pa_cons (pe_errF (pe_errI T_NoVectors i_NoVectors t_NoVectors F_NoVectors (hr.mono (by omega)) b_NoVectors pass0 (by rfl) c_NoVectors (pa_cons (pv 2) pa_nil))) (pa_cons (pe_errF (pe_errI T_NoEquations i_NoEquations t_NoEquations F_NoEquations (hr.mono (by omega)) b_NoEquations pass0 (by rfl) c_NoEquations (pa_cons (pv 2) pa_nil))) pa_nil))))))
      (pss_cons (ps_set (i := 8) sc.nd rfl (by first | exact Or.inl rfl | exact Or.inr rfl) (pe_op op_cat (pv 8) (pe_lst (pa_cons (pe_errF (pe_errI T_NoEquation i_NoEquation t_NoEquation F_NoEquation (hr.mono (by omega)) b_NoEquation pass0 (by rfl) c_NoEquation (pa_cons (pv 2) pa_nil))) (pa_cons (pe_errF (pe_errI T_NoSender i_NoSender t_NoSender F_NoSender (hr.mono (by omega)) b_NoSender pass0 (by rfl) c_NoSender (pa_cons (pv 2) pa_nil))) (pa_cons (pe_errF (pe_errI T_TooMany i_TooMany t_TooMany F_TooMany (hr.mono (by omega)) b_TooMany pass0 (by rfl) c_TooMany (pa_cons (pv 2) pa_nil))) (pa_cons (pe_errF (pe_errI T_NoText i_NoText t_NoText F_NoText (hr.mono (by omega)) b_NoText pass0 (by rfl) c_NoText (pa_cons (pv 2) pa_nil))) pa_nil)))))))
      (pss_cons (ps_if (pt_not (pt_val (pe_c C_law_same hr (by omega) (by rfl) (pa_cons (pv 8) (pa_cons (pe_lst (pa_cons (pv 2) (pa_cons (pv 2) (pa_cons (pv 2) (pa_cons (pv 2) (pa_cons (pv 2) (pa_cons (pv 2) (pa_cons (pv 2) (pa_cons (pv 2) pa_nil))))))))) pa_nil)))))
      (pss_one (ps_ret pe_bl))
      pss_nil)
      (pss_cons (ps_set (i := 9) sc.nd rfl (by first | exact Or.inl rfl | exact Or.inr rfl) pe_non)
      (pss_cons (ps_try_mix (cl := [(.ref aB, some 10, fun a cls d => tAsg (tXf a cls d a_NoBook "procedure" (tVar 10)) (gName 9))]) rfl rfl takes0 (fun W pn xe tk _ => pss_one (ps_raise rfl tk (pmk_oex T_NoBook i_NoBook t_NoBook F_NoBook (hr.mono (by omega)) b_NoBook .nil pass0 (by rfl) c_NoBook (pa_cons (pv 3) (pa_cons (pv 2) pa_nil))))) (.named (i := 10) sc.nd rfl rfl ⟨rfl, by decide, .inl c_BoardError⟩ (fun a oe cls d pn hz hf => pss_one (ps_set (i := 9) sc.nd rfl (by first | exact Or.inl rfl | exact Or.inr rfl) (pe_xf TX nB_procedure hz hf (pv 10)))) .nil))
      (pss_one (ps_ret (pe_c C_law_same hr (by omega) (by rfl) (pa_cons (pv 9) (pa_cons (pv 3) pa_nil))))))))))))))))))), ?_⟩
    -- the draws
    refine q_run ?_
    refine ⟨.ref a, rfl, a, ns, rfl, hS, fun p q0 H1 np nq e1 x1 => ?_⟩
    have x1 : PW (fun a => a = p) H1 p q0 := ⟨x1, fun a z => by rw [z]; exact x1.isP, rfl⟩
    refine q_run ?_
    refine ⟨.ref p, rfl, _, p, q0, rfl, x1, fun v1 H2 o2 x2 ⟨d1, hd1, f1⟩ => ?_⟩
    refine q_run ?_
    refine ⟨.ref p, rfl, _, p, q0, rfl, x2, fun v2 H3 o3 x3 ⟨d2, hd2, f2⟩ => ?_⟩
    have h1 : Dp K H3 v1 d1 := dp_ex cw_ex _ _ (dpw_oth (W := fun a => a = p) rfl o3 hd1)
    have h2 : Dp K H3 v2 d2 := dp_ex cw_ex _ _ hd2
    have g1 := fit_mono d1 2 14 f1 (by decide)
    have g2 := fit_mono d2 2 14 f2 (by decide)
    have k1 := fit_mono d1 2 13 f1 (by decide)
    have k2 := fit_mono d2 2 13 f2 (by decide)
    clear hd1 hd2 o2 o3 x1 x2 x3
    -- made
    refine q_run ?_
    refine ⟨v1, rfl, v2, rfl, v1, v2, d1, d2, rfl, h1, h2, g1, g2, fun L xs H4 nL e4 hL hP => ?_⟩
    have lx := Paired.length hP
    have tCA : ∀ D ∈ CA, ErrC K D := fun D h => hT D (List.mem_cons_of_mem _ h)
    refine q_forR1 (n := (xs.length : Int)) (ea_cons (ev_lenS (ev_var rfl) (.inl (sq_of hL))) ea_nil) ⟨by omega, by omega⟩
      (fun i σ' H' => ∃ x5 : Option V, σ' = [some (.ref a), some (.ref p), some v1, some v2, some (.ref L), x5, none, none, none, none, none, none] ∧ Ex H4 H') (fun H5 e5 => ⟨none, rfl, e5⟩) (fun i σ' H' hi hI => ?_) (fun σ' H' hI => ?_)
    · obtain ⟨x5, rfl, e5⟩ := hI
      have hic : i < CA.length := by omega
      obtain ⟨v, hv⟩ : ∃ v, xs[i]? = some v := ⟨_, List.getElem?_eq_getElem (by omega)⟩
      obtain ⟨b, fs, rfl, hb⟩ : ErrIs H4 v CA[i] := paired_getE hP hic hv
      have hm := List.getElem_mem hic
      have evb : ∀ {σ : L2.St} {H : Hp}, Ex H4 H → σ[4]? = some (some (.ref L)) → σ[5]? = some (some (.int (i : Int))) → Ev (tOp (rIxL K) (tVar 4) (tVar 5)) σ H (.ref b) := fun e s4 s5 => ev_op (ev_var s4) (ev_var s5) (rv_ixL (sq_of (e _ _ hL)) (atI_nat hv))
      have nd' := (List.nodup_cons.mp nd).2
      dsimp only
      refine q_when (b := false) (et_or (a := false) (b := false) (et_is (et_not (et_B (ev_isX (evb e5 rfl rfl) (errAt_ex e5 hb) (tCA _ hm) (hB _ hm)))) rfl) fun _ => et_or (a := false) (b := false) (et_is (et_not (et_B (ev_isXT (evb e5 rfl rfl) (errAt_ex e5 hb) (tCA _ hm) (hV _ (List.mem_cons_of_mem _ hm))))) rfl) fun _ => et_B (fun H6 e6 Q' q' => evb (e5.trans e6) rfl rfl H6 (Ex.refl _) _ fun H7 e7 => ⟨b, CA[i], fs, rfl, errAt_ex ((e5.trans e6).trans e7) hb, hm, fun H8 e8 => q' H8 (e7.trans e8)⟩)) (fun h => (nomatch h)) fun _ H6 e6 => ?_
      have e56 := e5.trans e6
      refine s_when (b := false) (et_test fun H7 e7 Q' q' => ?_) (fun h => (nomatch h)) fun _ H7 e7 => ⟨_, rfl, e56.trans e7⟩
      refine evb (e56.trans e7) rfl rfl H7 (Ex.refl _) _ fun H8 e8 => ⟨b, CA[i], fs, rfl, errAt_ex ((e56.trans e7).trans e8) hb, List.mem_cons_of_mem _ hm, fun L2 H9 nL2 e9 hL2 => ?_⟩
      have e49 := ((e56.trans e7).trans e8).trans e9
      refine el_rng (σ := [some (.ref a), some (.ref p), some v1, some v2, some (.ref L), some (.int (i : Int)), none, none, none, none, none, none]) (j := 11) (vs := [11]) (te := tOp rEq (tVar 11) (tVar 5)) (n := xs.length) (fun k => V.bl (decide (V.int (k : Int) = V.int (i : Int)))) (ea_cons (ev_lenS (ev_var rfl) (.inl (sq_of (e49 _ _ hL)))) ea_nil) (by omega) (fun _ => rfl) (fun k H e hk => ev_op (ev_var rfl) (ev_var rfl) (rv_eq rfl)) H9 (Ex.refl _) _ fun M H10 nM e10 hM => ?_
      have ek := kinds_are nd' hic
      have d1' : Dp K H10 (.ref L2) (.list ((CA.map fun C => CA[i] == C).map PyData.bool)) := .lst (sq_of (by rw [List.map_map]; exact e10 _ _ hL2)) (dpa_bools _)
      have d2' : Dp K H10 (.ref M) (.list ((CA.map fun C => CA[i] == C).map PyData.bool)) := .lst (sq_of (by rw [ek, ← lx, List.map_map]; exact hM)) (dpa_bools _)
      refine ⟨_, _, d1', d2', shaped_bools (by rw [List.length_map]; omega), shaped_bools (by rw [List.length_map]; omega), ?_⟩
      rw [eqv_bools]
      exact q' H10 ((e8.trans e9).trans e10)
    · obtain ⟨x5, rfl, e5⟩ := hI
      have h1 := dp_ex (e4.trans e5) _ _ h1
      have h2 := dp_ex (e4.trans e5) _ _ h2
      clear hP hL e4 e5 nL
      -- other
      refine q_run ?_
      intro o no
      have eo : Ex H' (upd H' o (exo o aB none)) := Ex.new no
      have ho : ErrAt (upd H' o (exo o aB none)) o aB [] := .inl ⟨rfl, upd_same⟩
      have h1 := dp_ex eo _ _ h1
      have h2 := dp_ex eo _ _ h2
      generalize upd H' o (exo o aB none) = H5 at ho h1 h2 ⊢
      clear eo no
      have mB : aB ∈ aB :: CA := List.mem_cons_self ..
      refine q_when (b := false) (et_or (a := false) (b := false) (et_is (et_not (et_B (ev_isXT (ev_var rfl) ho (hT _ mB) (hV _ mB)))) rfl) fun _ => et_test fun H6 e6 Q' q' => ?_) (fun h => (nomatch h)) fun _ H6 e6 => ?_
      · refine ⟨.ref o, rfl, o, aB, [], rfl, errAt_ex e6 ho, mB, fun L2 H9 nL2 e9 hL2 => ?_⟩
        have := rv_inL (K := K) (neg := false) (x := .bl true) (sq_of hL2) rfl (by rw [List.all_map]; exact List.all_eq_true.mpr fun _ _ => rfl) H9 (Ex.refl _) Q' ?_
        · exact this
        · intro H10 e10
          show Q' (.bl (if false = true then _ else _)) _
          rw [if_neg (by decide), kinds_none (List.nodup_cons.mp nd).1]
          exact q' _ (e9.trans e10)
      have h1 := dp_ex e6 _ _ h1
      have h2 := dp_ex e6 _ _ h2
      clear ho
      -- book
      refine q_run (ep_err2 (n := "procedure") (m := "path") (ev_var rfl) (ev_var rfl) h1 h2 g1 g2 H6 (Ex.refl _) _ fun vb H7 e7 ⟨b, u1, u2, hvb, hb, hu1, hu2⟩ => ?_)
      subst hvb
      have h1 := dp_ex e7 _ _ h1
      have h2 := dp_ex e7 _ _ h2
      have l12 : fit (.list [d1, d2]) 14 = true := lv_len (by simp) (by rw [fitAll, fitAll, fitAll, k1, k2]; rfl)
      have evB : ∀ {H : Hp} {σ : L2.St} {n : Str} {u : V} {d : PyData}, Ex H7 H → σ[7]? = some (some (.ref b)) → PySem.W.findIn K (.ref a_NoBook) n = some none → [(("path" : Str), u2), (("procedure" : Str), u1)].lookup n = some u → Dp K H7 u d → EvP (tErrF K n (tVar 7)) σ H (DPw K (fun _ => False) d) := fun e s7 hn hl hd =>
        dpw0 (ep_errF E_NoBook hn (ep_ev (ev_var s7) fun H2 e2 => ⟨b, _, _, rfl, errAt_ex (e.trans e2) hb, hl, dp_ex (e.trans e2) _ _ hd⟩))
      refine q_same (d := .list [d1, d2]) (n := 14) (dp0 (epc_lst has0 (edc_cons (evB (Ex.refl _) rfl nB_procedure (by rfl) hu1) (edc_cons (evB (Ex.refl _) rfl nB_path (by rfl) hu2) edc_nil)) (by simp))) (dp0 (epc_lst has0 (edc_cons (epc_ev (ev_var rfl) (dp_ex (fun a o h => cw_o h id) _ _ h1)) (edc_cons (epc_ev (ev_var rfl) (dp_ex (fun a o h => cw_o h id) _ _ h2)) edc_nil)) (by simp))) l12 fun H8 e8 => ?_
      have h1 := dp_ex e8 _ _ h1
      have h2 := dp_ex e8 _ _ h2
      clear evB hb hu1 hu2
      -- told
      have dpw_exF : ∀ (v : V) (H H' : Hp), Ex H H' → DPw K (fun _ => False) d1 v H → DPw K (fun _ => False) d1 v H' := fun _ _ _ e h => dpw_ex e h
      refine q_run (em_lst (n := 4) (Φ := DPw K (fun _ => False) d1) dpw_exF has0 (ew_cons dpw_exF (ep_fld1 E_NoRun n_NoRun (ev_var rfl) h1 g1) (ew_cons dpw_exF (ep_fld1 E_NoHistory n_NoHistory (ev_var rfl) h1 g1) (ew_cons dpw_exF (ep_fld1 E_NoVectors n_NoVectors (ev_var rfl) h1 g1) (ew_cons dpw_exF (ep_fld1 E_NoEquations n_NoEquations (ev_var rfl) h1 g1) ew_nil)))) (by decide) H8 (Ex.refl _) _ fun T1 t1 H9 e9 hT1 _ lt1 ht1 => ?_)
      have h1 := dp_ex e9 _ _ h1
      have h2 := dp_ex e9 _ _ h2
      refine q_run (em_cat (n := 4) (m := 4) (Φ := DPw K (fun _ => False) d1) dpw_exF has0 (em_varN lt1 dpw_exF rfl hT1 (fun h => h) ht1) (em_lst dpw_exF has0 (ew_cons dpw_exF (ep_fld1 E_NoEquation n_NoEquation (ev_var rfl) h1 g1) (ew_cons dpw_exF (ep_fld1 E_NoSender n_NoSender (ev_var rfl) h1 g1) (ew_cons dpw_exF (ep_fld1 E_TooMany n_TooMany (ev_var rfl) h1 g1) (ew_cons dpw_exF (ep_fld1 E_NoText n_NoText (ev_var rfl) h1 g1) ew_nil)))) (by decide)) (by decide) H9 (Ex.refl _) _ fun T2 t2 H10 e10 hT2 _ lt2 ht2 => ?_)
      have h1 := dp_ex e10 _ _ h1
      have h2 := dp_ex e10 _ _ h2
      have dT : Dp K H10 (.ref T2) (.list (List.replicate 8 d1)) := by
        refine .lst (sq_of hT2) ?_
        rw [show 8 = t2.length from lt2.symm]
        clear hT2 lt2
        induction t2 with
        | nil => exact .nil
        | cons v r ih => exact .cons (dp_ex cw_ex _ _ (ht2 v (List.mem_cons_self ..))) (ih fun w hw => ht2 w (List.mem_cons_of_mem _ hw))
      have l8 : fit (.list (List.replicate 8 d1)) 14 = true := lv_len (by simp) (by simp only [List.replicate, fitAll, k1]; rfl)
      refine q_same (d := .list (List.replicate 8 d1)) (n := 14) (ep_dp (ev_var rfl) dT) (dp0 (epc_lst has0 (edc_cons (epc_ev (ev_var rfl) (dp_ex (fun a o h => cw_o h id) _ _ h1)) (edc_cons (epc_ev (ev_var rfl) (dp_ex (fun a o h => cw_o h id) _ _ h1)) (edc_cons (epc_ev (ev_var rfl) (dp_ex (fun a o h => cw_o h id) _ _ h1)) (edc_cons (epc_ev (ev_var rfl) (dp_ex (fun a o h => cw_o h id) _ _ h1)) (edc_cons (epc_ev (ev_var rfl) (dp_ex (fun a o h => cw_o h id) _ _ h1)) (edc_cons (epc_ev (ev_var rfl) (dp_ex (fun a o h => cw_o h id) _ _ h1)) (edc_cons (epc_ev (ev_var rfl) (dp_ex (fun a o h => cw_o h id) _ _ h1)) (edc_cons (epc_ev (ev_var rfl) (dp_ex (fun a o h => cw_o h id) _ _ h1)) edc_nil)))))))) (by simp))) l8 fun H11 e11 => ?_
      have h1 := dp_ex e11 _ _ h1
      have h2 := dp_ex e11 _ _ h2
      -- caught
      refine q_asg ev_c fun H12 e12 => ?_
      have h1 := dp_ex e12 _ _ h1
      have h2 := dp_ex e12 _ _ h2
      dsimp only
      refine ⟨v2, rfl, v1, rfl, by show 2 ≤ 1000; decide, fun o no => ?_⟩
      refine ⟨o, v2, v1, d2, d1, H12, rfl, upd_same, no, Ex.new no, h2, h1, g2, g1, fun dx u w H' oo hH hx hdx dqu dqw => ⟨rfl, dx, _, hH, hx, ?_, ?_⟩⟩
      · exact fresh_back (Ex.new no) hdx
      · have ndo : dx ≠ o := fun z => by rw [z, upd_same] at hdx; cases hdx
        have hdx12 : H12 dx = none := fresh_back (Ex.new no) hdx
        refine ⟨true, eB, fun _ x hx' => ?_, fun h => (nomatch h)⟩
        unfold suiteW
        dsimp only
        have eE : Ex H12 (upd (L2.del H' o) dx (.xd [("path", w), ("procedure", u)])) := fun b z hb => by
          have nb : b ≠ o := fun y => by rw [y, no] at hb; cases hb
          rw [upd_ne (fun y => by rw [y, hdx12] at hb; cases hb), del_ne nb]
          exact oo _ _ nb (by rw [upd_ne nb]; exact hb)
        have du : Dp K (upd (L2.del H' o) dx (.xd [("path", w), ("procedure", u)])) u d2 := dq_dp _ _ (dq_to (fun _ z => z) (fun b z nb hb => by
          have n1 : b ≠ o := new_ne nb.1 ⟨_, upd_same⟩
          rw [upd_ne nb.2, del_ne n1]; exact hb) _ _ dqu)
        have hxd : upd (L2.del H' o) dx (.xd [("path", w), ("procedure", u)]) dx = some (.xd [("path", w), ("procedure", u)]) := upd_same
        generalize upd (L2.del H' o) dx (.xd [("path", w), ("procedure", u)]) = HE at eE du hxd ⊢
        refine ⟨.ref x, rfl, rfl, rfl, dx, _, u, rfl, hxd, rfl, ?_⟩
        dsimp only
        refine s_ret (H := HE) (ev_is (ev_same (ep_dp (ev_var rfl) du) (ep_dp (ev_var rfl) (dp_ex eE _ _ h2)) g2) rfl) fun H13 _ => q H13
end
/-! ### what the top has written; the end -/
theorem all_mk {l : PySem.W.OpenLaw} {w : World} {K : PySem.W.Frag} {h : Heap} {mg : Str → Option Value} {fa : Addr} (X : K.In h) (G : h.Ns mainGlobals mg) (hfa : mg "law" = some (.ref fa))
    {CBoardError : Addr} {CNoCells : Addr} {CNoProcedure : Addr} {CNoPath : Addr} {CNoBoard : Addr} {CNoNumber : Addr} {CNoDeed : Addr} {CNoWidth : Addr} {CNoTable : Addr} {CNoClass : Addr} {CNoState : Addr} {CNoClasses : Addr} {CNoClaims : Addr} {CNoOrder : Addr} {CNoFault : Addr} {CNoMany : Addr} {CNoList : Addr} {CNoIndex : Addr} {CNoDeeds : Addr} {CNotLet : Addr} {CNoReplica : Addr} {CHeld : Addr} {CNoBook dNNoBook : Addr} {nmNoBook qnNoBook : Str} {bsNoBook bmNoBook suNoBook : List Value} {snNoBook : List Str} {abNoBook : Bool} {coNoBook : Option Bool} {ddNoBook : Option Addr} {kaNoBook kbNoBook kcNoBook kdNoBook keNoBook : Option Value} {odNoBook___init__ anNoBook___init__ : Option Addr} {slNoBook___init__ : Array (Option Value)} {ocNoBook___init__ kVNoBook___init__ dcNoBook___init__ pmNoBook___init__ cdNoBook___init__ ctNoBook___init__ : Value} {fNoBook___init__ : Addr} {CNoRun dNNoRun : Addr} {nmNoRun qnNoRun : Str} {bsNoRun bmNoRun suNoRun : List Value} {snNoRun : List Str} {abNoRun : Bool} {coNoRun : Option Bool} {ddNoRun : Option Addr} {kaNoRun kbNoRun kcNoRun kdNoRun keNoRun : Option Value} {odNoRun___init__ anNoRun___init__ : Option Addr} {slNoRun___init__ : Array (Option Value)} {ocNoRun___init__ kVNoRun___init__ dcNoRun___init__ pmNoRun___init__ cdNoRun___init__ ctNoRun___init__ : Value} {fNoRun___init__ : Addr} {CNoHistory dNNoHistory : Addr} {nmNoHistory qnNoHistory : Str} {bsNoHistory bmNoHistory suNoHistory : List Value} {snNoHistory : List Str} {abNoHistory : Bool} {coNoHistory : Option Bool} {ddNoHistory : Option Addr} {kaNoHistory kbNoHistory kcNoHistory kdNoHistory keNoHistory : Option Value} {odNoHistory___init__ anNoHistory___init__ : Option Addr} {slNoHistory___init__ : Array (Option Value)} {ocNoHistory___init__ kVNoHistory___init__ dcNoHistory___init__ pmNoHistory___init__ cdNoHistory___init__ ctNoHistory___init__ : Value} {fNoHistory___init__ : Addr} {CNoVectors dNNoVectors : Addr} {nmNoVectors qnNoVectors : Str} {bsNoVectors bmNoVectors suNoVectors : List Value} {snNoVectors : List Str} {abNoVectors : Bool} {coNoVectors : Option Bool} {ddNoVectors : Option Addr} {kaNoVectors kbNoVectors kcNoVectors kdNoVectors keNoVectors : Option Value} {odNoVectors___init__ anNoVectors___init__ : Option Addr} {slNoVectors___init__ : Array (Option Value)} {ocNoVectors___init__ kVNoVectors___init__ dcNoVectors___init__ pmNoVectors___init__ cdNoVectors___init__ ctNoVectors___init__ : Value} {fNoVectors___init__ : Addr} {CNoEquations dNNoEquations : Addr} {nmNoEquations qnNoEquations : Str} {bsNoEquations bmNoEquations suNoEquations : List Value} {snNoEquations : List Str} {abNoEquations : Bool} {coNoEquations : Option Bool} {ddNoEquations : Option Addr} {kaNoEquations kbNoEquations kcNoEquations kdNoEquations keNoEquations : Option Value} {odNoEquations___init__ anNoEquations___init__ : Option Addr} {slNoEquations___init__ : Array (Option Value)} {ocNoEquations___init__ kVNoEquations___init__ dcNoEquations___init__ pmNoEquations___init__ cdNoEquations___init__ ctNoEquations___init__ : Value} {fNoEquations___init__ : Addr} {CNoEquation dNNoEquation : Addr} {nmNoEquation qnNoEquation : Str} {bsNoEquation bmNoEquation suNoEquation : List Value} {snNoEquation : List Str} {abNoEquation : Bool} {coNoEquation : Option Bool} {ddNoEquation : Option Addr} {kaNoEquation kbNoEquation kcNoEquation kdNoEquation keNoEquation : Option Value} {odNoEquation___init__ anNoEquation___init__ : Option Addr} {slNoEquation___init__ : Array (Option Value)} {ocNoEquation___init__ kVNoEquation___init__ dcNoEquation___init__ pmNoEquation___init__ cdNoEquation___init__ ctNoEquation___init__ : Value} {fNoEquation___init__ : Addr} {CNoSender dNNoSender : Addr} {nmNoSender qnNoSender : Str} {bsNoSender bmNoSender suNoSender : List Value} {snNoSender : List Str} {abNoSender : Bool} {coNoSender : Option Bool} {ddNoSender : Option Addr} {kaNoSender kbNoSender kcNoSender kdNoSender keNoSender : Option Value} {odNoSender___init__ anNoSender___init__ : Option Addr} {slNoSender___init__ : Array (Option Value)} {ocNoSender___init__ kVNoSender___init__ dcNoSender___init__ pmNoSender___init__ cdNoSender___init__ ctNoSender___init__ : Value} {fNoSender___init__ : Addr} {CTooMany dNTooMany : Addr} {nmTooMany qnTooMany : Str} {bsTooMany bmTooMany suTooMany : List Value} {snTooMany : List Str} {abTooMany : Bool} {coTooMany : Option Bool} {ddTooMany : Option Addr} {kaTooMany kbTooMany kcTooMany kdTooMany keTooMany : Option Value} {odTooMany___init__ anTooMany___init__ : Option Addr} {slTooMany___init__ : Array (Option Value)} {ocTooMany___init__ kVTooMany___init__ dcTooMany___init__ pmTooMany___init__ cdTooMany___init__ ctTooMany___init__ : Value} {fTooMany___init__ : Addr} {CNoText dNNoText : Addr} {nmNoText qnNoText : Str} {bsNoText bmNoText suNoText : List Value} {snNoText : List Str} {abNoText : Bool} {coNoText : Option Bool} {ddNoText : Option Addr} {kaNoText kbNoText kcNoText kdNoText keNoText : Option Value} {odNoText___init__ anNoText___init__ : Option Addr} {slNoText___init__ : Array (Option Value)} {ocNoText___init__ kVNoText___init__ dcNoText___init__ pmNoText___init__ cdNoText___init__ ctNoText___init__ : Value} {fNoText___init__ : Addr} {odcopied ancopied : Option Addr} {slcopied : Array (Option Value)} {occopied kVcopied dccopied pmcopied cdcopied ctcopied : Value} {fcopied : Addr} {od_law_pool an_law_pool : Option Addr} {sl_law_pool : Array (Option Value)} {oc_law_pool kV_law_pool dc_law_pool pm_law_pool cd_law_pool ct_law_pool : Value} {f_law_pool : Addr} {od_law_draw an_law_draw : Option Addr} {sl_law_draw : Array (Option Value)} {oc_law_draw kV_law_draw dc_law_draw pm_law_draw cd_law_draw ct_law_draw : Value} {f_law_draw : Addr} {od_law_number an_law_number : Option Addr} {sl_law_number : Array (Option Value)} {oc_law_number kV_law_number dc_law_number pm_law_number cd_law_number ct_law_number : Value} {f_law_number : Addr} {od_law_same an_law_same : Option Addr} {sl_law_same : Array (Option Value)} {oc_law_same kV_law_same dc_law_same pm_law_same cd_law_same ct_law_same : Value} {f_law_same : Addr} {od_law_kinds an_law_kinds : Option Addr} {sl_law_kinds : Array (Option Value)} {oc_law_kinds kV_law_kinds dc_law_kinds pm_law_kinds cd_law_kinds ct_law_kinds : Value} {f_law_kinds : Addr} {od_law_made an_law_made : Option Addr} {sl_law_made : Array (Option Value)} {oc_law_made kV_law_made dc_law_made pm_law_made cd_law_made ct_law_made : Value} {f_law_made : Addr} {od_law_thing an_law_thing : Option Addr} {sl_law_thing : Array (Option Value)} {oc_law_thing kV_law_thing dc_law_thing pm_law_thing cd_law_thing ct_law_thing : Value} {f_law_thing : Addr} {od_law_foreign an_law_foreign : Option Addr} {sl_law_foreign : Array (Option Value)} {oc_law_foreign kV_law_foreign dc_law_foreign pm_law_foreign cd_law_foreign ct_law_foreign : Value} {f_law_foreign : Addr} {odlaw anlaw : Option Addr} {sllaw : Array (Option Value)} {oclaw kVlaw dclaw pmlaw cdlaw ctlaw : Value} {flaw : Addr}
    (aBoardError : PySem.W.nsIn K mainGlobals "BoardError" = some (some (.ref CBoardError)))
    (xBoardError : PySem.W.excIn K CBoardError [.type "ValueError", .type "Exception", .type "BaseException", .type "object"] "ValueError.__new__" = true)
    (kBoardError : PySem.W.keepIn K (.ref CBoardError) = true)
    (bBoardError : PySem.W.subIn K (.ref CBoardError) (.type "BaseException") = some true)
    (tBoardError : PySem.W.typeIn K (.ref CBoardError) = some (.type "type"))
    (hdBoardError : PySem.W.hasDictIn K CBoardError = true)
    (aNoCells : PySem.W.nsIn K mainGlobals "NoCells" = some (some (.ref CNoCells)))
    (xNoCells : PySem.W.excIn K CNoCells [.type "ValueError", .type "Exception", .type "BaseException", .type "object"] "ValueError.__new__" = true)
    (kNoCells : PySem.W.keepIn K (.ref CNoCells) = true)
    (aNoProcedure : PySem.W.nsIn K mainGlobals "NoProcedure" = some (some (.ref CNoProcedure)))
    (xNoProcedure : PySem.W.excIn K CNoProcedure [.type "ValueError", .type "Exception", .type "BaseException", .type "object"] "ValueError.__new__" = true)
    (kNoProcedure : PySem.W.keepIn K (.ref CNoProcedure) = true)
    (aNoPath : PySem.W.nsIn K mainGlobals "NoPath" = some (some (.ref CNoPath)))
    (xNoPath : PySem.W.excIn K CNoPath [.type "ValueError", .type "Exception", .type "BaseException", .type "object"] "ValueError.__new__" = true)
    (kNoPath : PySem.W.keepIn K (.ref CNoPath) = true)
    (aNoBoard : PySem.W.nsIn K mainGlobals "NoBoard" = some (some (.ref CNoBoard)))
    (xNoBoard : PySem.W.excIn K CNoBoard [.type "ValueError", .type "Exception", .type "BaseException", .type "object"] "ValueError.__new__" = true)
    (kNoBoard : PySem.W.keepIn K (.ref CNoBoard) = true)
    (aNoNumber : PySem.W.nsIn K mainGlobals "NoNumber" = some (some (.ref CNoNumber)))
    (xNoNumber : PySem.W.excIn K CNoNumber [.type "ValueError", .type "Exception", .type "BaseException", .type "object"] "ValueError.__new__" = true)
    (kNoNumber : PySem.W.keepIn K (.ref CNoNumber) = true)
    (aNoDeed : PySem.W.nsIn K mainGlobals "NoDeed" = some (some (.ref CNoDeed)))
    (xNoDeed : PySem.W.excIn K CNoDeed [.type "ValueError", .type "Exception", .type "BaseException", .type "object"] "ValueError.__new__" = true)
    (kNoDeed : PySem.W.keepIn K (.ref CNoDeed) = true)
    (aNoWidth : PySem.W.nsIn K mainGlobals "NoWidth" = some (some (.ref CNoWidth)))
    (xNoWidth : PySem.W.excIn K CNoWidth [.type "ValueError", .type "Exception", .type "BaseException", .type "object"] "ValueError.__new__" = true)
    (kNoWidth : PySem.W.keepIn K (.ref CNoWidth) = true)
    (aNoTable : PySem.W.nsIn K mainGlobals "NoTable" = some (some (.ref CNoTable)))
    (xNoTable : PySem.W.excIn K CNoTable [.type "ValueError", .type "Exception", .type "BaseException", .type "object"] "ValueError.__new__" = true)
    (kNoTable : PySem.W.keepIn K (.ref CNoTable) = true)
    (aNoClass : PySem.W.nsIn K mainGlobals "NoClass" = some (some (.ref CNoClass)))
    (xNoClass : PySem.W.excIn K CNoClass [.type "ValueError", .type "Exception", .type "BaseException", .type "object"] "ValueError.__new__" = true)
    (kNoClass : PySem.W.keepIn K (.ref CNoClass) = true)
    (aNoState : PySem.W.nsIn K mainGlobals "NoState" = some (some (.ref CNoState)))
    (xNoState : PySem.W.excIn K CNoState [.type "ValueError", .type "Exception", .type "BaseException", .type "object"] "ValueError.__new__" = true)
    (kNoState : PySem.W.keepIn K (.ref CNoState) = true)
    (aNoClasses : PySem.W.nsIn K mainGlobals "NoClasses" = some (some (.ref CNoClasses)))
    (xNoClasses : PySem.W.excIn K CNoClasses [.type "ValueError", .type "Exception", .type "BaseException", .type "object"] "ValueError.__new__" = true)
    (kNoClasses : PySem.W.keepIn K (.ref CNoClasses) = true)
    (aNoClaims : PySem.W.nsIn K mainGlobals "NoClaims" = some (some (.ref CNoClaims)))
    (xNoClaims : PySem.W.excIn K CNoClaims [.type "ValueError", .type "Exception", .type "BaseException", .type "object"] "ValueError.__new__" = true)
    (kNoClaims : PySem.W.keepIn K (.ref CNoClaims) = true)
    (aNoOrder : PySem.W.nsIn K mainGlobals "NoOrder" = some (some (.ref CNoOrder)))
    (xNoOrder : PySem.W.excIn K CNoOrder [.type "ValueError", .type "Exception", .type "BaseException", .type "object"] "ValueError.__new__" = true)
    (kNoOrder : PySem.W.keepIn K (.ref CNoOrder) = true)
    (aNoFault : PySem.W.nsIn K mainGlobals "NoFault" = some (some (.ref CNoFault)))
    (xNoFault : PySem.W.excIn K CNoFault [.type "ValueError", .type "Exception", .type "BaseException", .type "object"] "ValueError.__new__" = true)
    (kNoFault : PySem.W.keepIn K (.ref CNoFault) = true)
    (aNoMany : PySem.W.nsIn K mainGlobals "NoMany" = some (some (.ref CNoMany)))
    (xNoMany : PySem.W.excIn K CNoMany [.type "ValueError", .type "Exception", .type "BaseException", .type "object"] "ValueError.__new__" = true)
    (kNoMany : PySem.W.keepIn K (.ref CNoMany) = true)
    (aNoList : PySem.W.nsIn K mainGlobals "NoList" = some (some (.ref CNoList)))
    (xNoList : PySem.W.excIn K CNoList [.type "ValueError", .type "Exception", .type "BaseException", .type "object"] "ValueError.__new__" = true)
    (kNoList : PySem.W.keepIn K (.ref CNoList) = true)
    (aNoIndex : PySem.W.nsIn K mainGlobals "NoIndex" = some (some (.ref CNoIndex)))
    (xNoIndex : PySem.W.excIn K CNoIndex [.type "ValueError", .type "Exception", .type "BaseException", .type "object"] "ValueError.__new__" = true)
    (kNoIndex : PySem.W.keepIn K (.ref CNoIndex) = true)
    (aNoDeeds : PySem.W.nsIn K mainGlobals "NoDeeds" = some (some (.ref CNoDeeds)))
    (xNoDeeds : PySem.W.excIn K CNoDeeds [.type "ValueError", .type "Exception", .type "BaseException", .type "object"] "ValueError.__new__" = true)
    (kNoDeeds : PySem.W.keepIn K (.ref CNoDeeds) = true)
    (aNotLet : PySem.W.nsIn K mainGlobals "NotLet" = some (some (.ref CNotLet)))
    (xNotLet : PySem.W.excIn K CNotLet [.type "ValueError", .type "Exception", .type "BaseException", .type "object"] "ValueError.__new__" = true)
    (kNotLet : PySem.W.keepIn K (.ref CNotLet) = true)
    (aNoReplica : PySem.W.nsIn K mainGlobals "NoReplica" = some (some (.ref CNoReplica)))
    (xNoReplica : PySem.W.excIn K CNoReplica [.type "ValueError", .type "Exception", .type "BaseException", .type "object"] "ValueError.__new__" = true)
    (kNoReplica : PySem.W.keepIn K (.ref CNoReplica) = true)
    (aHeld : PySem.W.nsIn K mainGlobals "Held" = some (some (.ref CHeld)))
    (xHeld : PySem.W.excIn K CHeld [.type "ValueError", .type "Exception", .type "BaseException", .type "object"] "ValueError.__new__" = true)
    (kHeld : PySem.W.keepIn K (.ref CHeld) = true)
    (aNoBook : PySem.W.nsIn K mainGlobals "NoBook" = some (some (.ref CNoBook)))
    (xNoBook : K.lookup CNoBook = some (excClassObj nmNoBook qnNoBook CNoBook dNNoBook bsNoBook bmNoBook true snNoBook suNoBook abNoBook coNoBook ddNoBook kaNoBook kbNoBook kcNoBook kdNoBook keNoBook "ValueError.__new__"))
    (rNoBook : PySem.HandSPX.refsVE bmNoBook = true)
    (saNoBook : PySem.W.findIn K (.ref CNoBook) "__setattr__" = some (some (.builtin "object.__setattr__")))
    (kNoBook : PySem.W.keepIn K (.ref CNoBook) = true)
    (bNoBook : PySem.W.subIn K (.ref CNoBook) (.type "BaseException") = some true)
    (tNoBook : PySem.W.typeIn K (.ref CNoBook) = some (.type "type"))
    (hdNoBook : PySem.W.hasDictIn K CNoBook = true)
    (xfNoBook : L2.xfB K CNoBook = true)
    (nNoBook_procedure : PySem.W.findIn K (.ref CNoBook) "procedure" = some none)
    (nNoBook_path : PySem.W.findIn K (.ref CNoBook) "path" = some none)
    (aNoBook___init__ : PySem.W.findIn K (.ref CNoBook) "__init__" = some (some (.ref fNoBook___init__)))
    (iNoBook___init__ : PySem.W.isFn K (.ref fNoBook___init__) = true)
    (lNoBook___init__ : K.lookup fNoBook___init__ = some ⟨ocNoBook___init__, odNoBook___init__, .func (PySem.W.fnOf "__init__" "NoBook.__init__" (defArgs sNoBook___init__) (defBody sNoBook___init__) (defScope sNoBook___init__) .none kVNoBook___init__ dcNoBook___init__ pmNoBook___init__ anNoBook___init__ cdNoBook___init__ ctNoBook___init__), slNoBook___init__⟩)
    (cNoBook___init__ : PySem.W.codeIn K cdNoBook___init__ "NoBook.__init__" = true)
    (kNoBook___init__ : PySem.W.keepIn K (.ref fNoBook___init__) = true)
    (tiNoBook : PySem.W.typeIn K (.ref fNoBook___init__) = some (.type "function"))
    (aNoRun : PySem.W.nsIn K mainGlobals "NoRun" = some (some (.ref CNoRun)))
    (xNoRun : K.lookup CNoRun = some (excClassObj nmNoRun qnNoRun CNoRun dNNoRun bsNoRun bmNoRun true snNoRun suNoRun abNoRun coNoRun ddNoRun kaNoRun kbNoRun kcNoRun kdNoRun keNoRun "ValueError.__new__"))
    (rNoRun : PySem.HandSPX.refsVE bmNoRun = true)
    (saNoRun : PySem.W.findIn K (.ref CNoRun) "__setattr__" = some (some (.builtin "object.__setattr__")))
    (kNoRun : PySem.W.keepIn K (.ref CNoRun) = true)
    (bNoRun : PySem.W.subIn K (.ref CNoRun) (.type "BaseException") = some true)
    (tNoRun : PySem.W.typeIn K (.ref CNoRun) = some (.type "type"))
    (hdNoRun : PySem.W.hasDictIn K CNoRun = true)
    (xfNoRun : L2.xfB K CNoRun = true)
    (nNoRun_index : PySem.W.findIn K (.ref CNoRun) "index" = some none)
    (aNoRun___init__ : PySem.W.findIn K (.ref CNoRun) "__init__" = some (some (.ref fNoRun___init__)))
    (iNoRun___init__ : PySem.W.isFn K (.ref fNoRun___init__) = true)
    (lNoRun___init__ : K.lookup fNoRun___init__ = some ⟨ocNoRun___init__, odNoRun___init__, .func (PySem.W.fnOf "__init__" "NoRun.__init__" (defArgs sNoRun___init__) (defBody sNoRun___init__) (defScope sNoRun___init__) .none kVNoRun___init__ dcNoRun___init__ pmNoRun___init__ anNoRun___init__ cdNoRun___init__ ctNoRun___init__), slNoRun___init__⟩)
    (cNoRun___init__ : PySem.W.codeIn K cdNoRun___init__ "NoRun.__init__" = true)
    (kNoRun___init__ : PySem.W.keepIn K (.ref fNoRun___init__) = true)
    (tiNoRun : PySem.W.typeIn K (.ref fNoRun___init__) = some (.type "function"))
    (aNoHistory : PySem.W.nsIn K mainGlobals "NoHistory" = some (some (.ref CNoHistory)))
    (xNoHistory : K.lookup CNoHistory = some (excClassObj nmNoHistory qnNoHistory CNoHistory dNNoHistory bsNoHistory bmNoHistory true snNoHistory suNoHistory abNoHistory coNoHistory ddNoHistory kaNoHistory kbNoHistory kcNoHistory kdNoHistory keNoHistory "ValueError.__new__"))
    (rNoHistory : PySem.HandSPX.refsVE bmNoHistory = true)
    (saNoHistory : PySem.W.findIn K (.ref CNoHistory) "__setattr__" = some (some (.builtin "object.__setattr__")))
    (kNoHistory : PySem.W.keepIn K (.ref CNoHistory) = true)
    (bNoHistory : PySem.W.subIn K (.ref CNoHistory) (.type "BaseException") = some true)
    (tNoHistory : PySem.W.typeIn K (.ref CNoHistory) = some (.type "type"))
    (hdNoHistory : PySem.W.hasDictIn K CNoHistory = true)
    (xfNoHistory : L2.xfB K CNoHistory = true)
    (nNoHistory_index : PySem.W.findIn K (.ref CNoHistory) "index" = some none)
    (aNoHistory___init__ : PySem.W.findIn K (.ref CNoHistory) "__init__" = some (some (.ref fNoHistory___init__)))
    (iNoHistory___init__ : PySem.W.isFn K (.ref fNoHistory___init__) = true)
    (lNoHistory___init__ : K.lookup fNoHistory___init__ = some ⟨ocNoHistory___init__, odNoHistory___init__, .func (PySem.W.fnOf "__init__" "NoHistory.__init__" (defArgs sNoHistory___init__) (defBody sNoHistory___init__) (defScope sNoHistory___init__) .none kVNoHistory___init__ dcNoHistory___init__ pmNoHistory___init__ anNoHistory___init__ cdNoHistory___init__ ctNoHistory___init__), slNoHistory___init__⟩)
    (cNoHistory___init__ : PySem.W.codeIn K cdNoHistory___init__ "NoHistory.__init__" = true)
    (kNoHistory___init__ : PySem.W.keepIn K (.ref fNoHistory___init__) = true)
    (tiNoHistory : PySem.W.typeIn K (.ref fNoHistory___init__) = some (.type "function"))
    (aNoVectors : PySem.W.nsIn K mainGlobals "NoVectors" = some (some (.ref CNoVectors)))
    (xNoVectors : K.lookup CNoVectors = some (excClassObj nmNoVectors qnNoVectors CNoVectors dNNoVectors bsNoVectors bmNoVectors true snNoVectors suNoVectors abNoVectors coNoVectors ddNoVectors kaNoVectors kbNoVectors kcNoVectors kdNoVectors keNoVectors "ValueError.__new__"))
    (rNoVectors : PySem.HandSPX.refsVE bmNoVectors = true)
    (saNoVectors : PySem.W.findIn K (.ref CNoVectors) "__setattr__" = some (some (.builtin "object.__setattr__")))
    (kNoVectors : PySem.W.keepIn K (.ref CNoVectors) = true)
    (bNoVectors : PySem.W.subIn K (.ref CNoVectors) (.type "BaseException") = some true)
    (tNoVectors : PySem.W.typeIn K (.ref CNoVectors) = some (.type "type"))
    (hdNoVectors : PySem.W.hasDictIn K CNoVectors = true)
    (xfNoVectors : L2.xfB K CNoVectors = true)
    (nNoVectors_index : PySem.W.findIn K (.ref CNoVectors) "index" = some none)
    (aNoVectors___init__ : PySem.W.findIn K (.ref CNoVectors) "__init__" = some (some (.ref fNoVectors___init__)))
    (iNoVectors___init__ : PySem.W.isFn K (.ref fNoVectors___init__) = true)
    (lNoVectors___init__ : K.lookup fNoVectors___init__ = some ⟨ocNoVectors___init__, odNoVectors___init__, .func (PySem.W.fnOf "__init__" "NoVectors.__init__" (defArgs sNoVectors___init__) (defBody sNoVectors___init__) (defScope sNoVectors___init__) .none kVNoVectors___init__ dcNoVectors___init__ pmNoVectors___init__ anNoVectors___init__ cdNoVectors___init__ ctNoVectors___init__), slNoVectors___init__⟩)
    (cNoVectors___init__ : PySem.W.codeIn K cdNoVectors___init__ "NoVectors.__init__" = true)
    (kNoVectors___init__ : PySem.W.keepIn K (.ref fNoVectors___init__) = true)
    (tiNoVectors : PySem.W.typeIn K (.ref fNoVectors___init__) = some (.type "function"))
    (aNoEquations : PySem.W.nsIn K mainGlobals "NoEquations" = some (some (.ref CNoEquations)))
    (xNoEquations : K.lookup CNoEquations = some (excClassObj nmNoEquations qnNoEquations CNoEquations dNNoEquations bsNoEquations bmNoEquations true snNoEquations suNoEquations abNoEquations coNoEquations ddNoEquations kaNoEquations kbNoEquations kcNoEquations kdNoEquations keNoEquations "ValueError.__new__"))
    (rNoEquations : PySem.HandSPX.refsVE bmNoEquations = true)
    (saNoEquations : PySem.W.findIn K (.ref CNoEquations) "__setattr__" = some (some (.builtin "object.__setattr__")))
    (kNoEquations : PySem.W.keepIn K (.ref CNoEquations) = true)
    (bNoEquations : PySem.W.subIn K (.ref CNoEquations) (.type "BaseException") = some true)
    (tNoEquations : PySem.W.typeIn K (.ref CNoEquations) = some (.type "type"))
    (hdNoEquations : PySem.W.hasDictIn K CNoEquations = true)
    (xfNoEquations : L2.xfB K CNoEquations = true)
    (nNoEquations_index : PySem.W.findIn K (.ref CNoEquations) "index" = some none)
    (aNoEquations___init__ : PySem.W.findIn K (.ref CNoEquations) "__init__" = some (some (.ref fNoEquations___init__)))
    (iNoEquations___init__ : PySem.W.isFn K (.ref fNoEquations___init__) = true)
    (lNoEquations___init__ : K.lookup fNoEquations___init__ = some ⟨ocNoEquations___init__, odNoEquations___init__, .func (PySem.W.fnOf "__init__" "NoEquations.__init__" (defArgs sNoEquations___init__) (defBody sNoEquations___init__) (defScope sNoEquations___init__) .none kVNoEquations___init__ dcNoEquations___init__ pmNoEquations___init__ anNoEquations___init__ cdNoEquations___init__ ctNoEquations___init__), slNoEquations___init__⟩)
    (cNoEquations___init__ : PySem.W.codeIn K cdNoEquations___init__ "NoEquations.__init__" = true)
    (kNoEquations___init__ : PySem.W.keepIn K (.ref fNoEquations___init__) = true)
    (tiNoEquations : PySem.W.typeIn K (.ref fNoEquations___init__) = some (.type "function"))
    (aNoEquation : PySem.W.nsIn K mainGlobals "NoEquation" = some (some (.ref CNoEquation)))
    (xNoEquation : K.lookup CNoEquation = some (excClassObj nmNoEquation qnNoEquation CNoEquation dNNoEquation bsNoEquation bmNoEquation true snNoEquation suNoEquation abNoEquation coNoEquation ddNoEquation kaNoEquation kbNoEquation kcNoEquation kdNoEquation keNoEquation "ValueError.__new__"))
    (rNoEquation : PySem.HandSPX.refsVE bmNoEquation = true)
    (saNoEquation : PySem.W.findIn K (.ref CNoEquation) "__setattr__" = some (some (.builtin "object.__setattr__")))
    (kNoEquation : PySem.W.keepIn K (.ref CNoEquation) = true)
    (bNoEquation : PySem.W.subIn K (.ref CNoEquation) (.type "BaseException") = some true)
    (tNoEquation : PySem.W.typeIn K (.ref CNoEquation) = some (.type "type"))
    (hdNoEquation : PySem.W.hasDictIn K CNoEquation = true)
    (xfNoEquation : L2.xfB K CNoEquation = true)
    (nNoEquation_place : PySem.W.findIn K (.ref CNoEquation) "place" = some none)
    (aNoEquation___init__ : PySem.W.findIn K (.ref CNoEquation) "__init__" = some (some (.ref fNoEquation___init__)))
    (iNoEquation___init__ : PySem.W.isFn K (.ref fNoEquation___init__) = true)
    (lNoEquation___init__ : K.lookup fNoEquation___init__ = some ⟨ocNoEquation___init__, odNoEquation___init__, .func (PySem.W.fnOf "__init__" "NoEquation.__init__" (defArgs sNoEquation___init__) (defBody sNoEquation___init__) (defScope sNoEquation___init__) .none kVNoEquation___init__ dcNoEquation___init__ pmNoEquation___init__ anNoEquation___init__ cdNoEquation___init__ ctNoEquation___init__), slNoEquation___init__⟩)
    (cNoEquation___init__ : PySem.W.codeIn K cdNoEquation___init__ "NoEquation.__init__" = true)
    (kNoEquation___init__ : PySem.W.keepIn K (.ref fNoEquation___init__) = true)
    (tiNoEquation : PySem.W.typeIn K (.ref fNoEquation___init__) = some (.type "function"))
    (aNoSender : PySem.W.nsIn K mainGlobals "NoSender" = some (some (.ref CNoSender)))
    (xNoSender : K.lookup CNoSender = some (excClassObj nmNoSender qnNoSender CNoSender dNNoSender bsNoSender bmNoSender true snNoSender suNoSender abNoSender coNoSender ddNoSender kaNoSender kbNoSender kcNoSender kdNoSender keNoSender "ValueError.__new__"))
    (rNoSender : PySem.HandSPX.refsVE bmNoSender = true)
    (saNoSender : PySem.W.findIn K (.ref CNoSender) "__setattr__" = some (some (.builtin "object.__setattr__")))
    (kNoSender : PySem.W.keepIn K (.ref CNoSender) = true)
    (bNoSender : PySem.W.subIn K (.ref CNoSender) (.type "BaseException") = some true)
    (tNoSender : PySem.W.typeIn K (.ref CNoSender) = some (.type "type"))
    (hdNoSender : PySem.W.hasDictIn K CNoSender = true)
    (xfNoSender : L2.xfB K CNoSender = true)
    (nNoSender_state : PySem.W.findIn K (.ref CNoSender) "state" = some none)
    (aNoSender___init__ : PySem.W.findIn K (.ref CNoSender) "__init__" = some (some (.ref fNoSender___init__)))
    (iNoSender___init__ : PySem.W.isFn K (.ref fNoSender___init__) = true)
    (lNoSender___init__ : K.lookup fNoSender___init__ = some ⟨ocNoSender___init__, odNoSender___init__, .func (PySem.W.fnOf "__init__" "NoSender.__init__" (defArgs sNoSender___init__) (defBody sNoSender___init__) (defScope sNoSender___init__) .none kVNoSender___init__ dcNoSender___init__ pmNoSender___init__ anNoSender___init__ cdNoSender___init__ ctNoSender___init__), slNoSender___init__⟩)
    (cNoSender___init__ : PySem.W.codeIn K cdNoSender___init__ "NoSender.__init__" = true)
    (kNoSender___init__ : PySem.W.keepIn K (.ref fNoSender___init__) = true)
    (tiNoSender : PySem.W.typeIn K (.ref fNoSender___init__) = some (.type "function"))
    (aTooMany : PySem.W.nsIn K mainGlobals "TooMany" = some (some (.ref CTooMany)))
    (xTooMany : K.lookup CTooMany = some (excClassObj nmTooMany qnTooMany CTooMany dNTooMany bsTooMany bmTooMany true snTooMany suTooMany abTooMany coTooMany ddTooMany kaTooMany kbTooMany kcTooMany kdTooMany keTooMany "ValueError.__new__"))
    (rTooMany : PySem.HandSPX.refsVE bmTooMany = true)
    (saTooMany : PySem.W.findIn K (.ref CTooMany) "__setattr__" = some (some (.builtin "object.__setattr__")))
    (kTooMany : PySem.W.keepIn K (.ref CTooMany) = true)
    (bTooMany : PySem.W.subIn K (.ref CTooMany) (.type "BaseException") = some true)
    (tTooMany : PySem.W.typeIn K (.ref CTooMany) = some (.type "type"))
    (hdTooMany : PySem.W.hasDictIn K CTooMany = true)
    (xfTooMany : L2.xfB K CTooMany = true)
    (nTooMany_many : PySem.W.findIn K (.ref CTooMany) "many" = some none)
    (aTooMany___init__ : PySem.W.findIn K (.ref CTooMany) "__init__" = some (some (.ref fTooMany___init__)))
    (iTooMany___init__ : PySem.W.isFn K (.ref fTooMany___init__) = true)
    (lTooMany___init__ : K.lookup fTooMany___init__ = some ⟨ocTooMany___init__, odTooMany___init__, .func (PySem.W.fnOf "__init__" "TooMany.__init__" (defArgs sTooMany___init__) (defBody sTooMany___init__) (defScope sTooMany___init__) .none kVTooMany___init__ dcTooMany___init__ pmTooMany___init__ anTooMany___init__ cdTooMany___init__ ctTooMany___init__), slTooMany___init__⟩)
    (cTooMany___init__ : PySem.W.codeIn K cdTooMany___init__ "TooMany.__init__" = true)
    (kTooMany___init__ : PySem.W.keepIn K (.ref fTooMany___init__) = true)
    (tiTooMany : PySem.W.typeIn K (.ref fTooMany___init__) = some (.type "function"))
    (aNoText : PySem.W.nsIn K mainGlobals "NoText" = some (some (.ref CNoText)))
    (xNoText : K.lookup CNoText = some (excClassObj nmNoText qnNoText CNoText dNNoText bsNoText bmNoText true snNoText suNoText abNoText coNoText ddNoText kaNoText kbNoText kcNoText kdNoText keNoText "ValueError.__new__"))
    (rNoText : PySem.HandSPX.refsVE bmNoText = true)
    (saNoText : PySem.W.findIn K (.ref CNoText) "__setattr__" = some (some (.builtin "object.__setattr__")))
    (kNoText : PySem.W.keepIn K (.ref CNoText) = true)
    (bNoText : PySem.W.subIn K (.ref CNoText) (.type "BaseException") = some true)
    (tNoText : PySem.W.typeIn K (.ref CNoText) = some (.type "type"))
    (hdNoText : PySem.W.hasDictIn K CNoText = true)
    (xfNoText : L2.xfB K CNoText = true)
    (nNoText_line : PySem.W.findIn K (.ref CNoText) "line" = some none)
    (aNoText___init__ : PySem.W.findIn K (.ref CNoText) "__init__" = some (some (.ref fNoText___init__)))
    (iNoText___init__ : PySem.W.isFn K (.ref fNoText___init__) = true)
    (lNoText___init__ : K.lookup fNoText___init__ = some ⟨ocNoText___init__, odNoText___init__, .func (PySem.W.fnOf "__init__" "NoText.__init__" (defArgs sNoText___init__) (defBody sNoText___init__) (defScope sNoText___init__) .none kVNoText___init__ dcNoText___init__ pmNoText___init__ anNoText___init__ cdNoText___init__ ctNoText___init__), slNoText___init__⟩)
    (cNoText___init__ : PySem.W.codeIn K cdNoText___init__ "NoText.__init__" = true)
    (kNoText___init__ : PySem.W.keepIn K (.ref fNoText___init__) = true)
    (tiNoText : PySem.W.typeIn K (.ref fNoText___init__) = some (.type "function"))
    (allE : (CBoardError :: [CNoCells, CNoProcedure, CNoPath, CNoBoard, CNoNumber, CNoDeed, CNoWidth, CNoTable, CNoClass, CNoState, CNoClasses, CNoClaims, CNoOrder, CNoFault, CNoMany, CNoList, CNoIndex, CNoDeeds, CNotLet, CNoReplica, CHeld, CNoBook, CNoRun, CNoHistory, CNoVectors, CNoEquations, CNoEquation, CNoSender, CTooMany, CNoText]).all (My.errB K) = true)
    (allK : ((CBoardError :: [CNoCells, CNoProcedure, CNoPath, CNoBoard, CNoNumber, CNoDeed, CNoWidth, CNoTable, CNoClass, CNoState, CNoClasses, CNoClaims, CNoOrder, CNoFault, CNoMany, CNoList, CNoIndex, CNoDeeds, CNotLet, CNoReplica, CHeld, CNoBook, CNoRun, CNoHistory, CNoVectors, CNoEquations, CNoEquation, CNoSender, CTooMany, CNoText]).all fun D => [CNoCells, CNoProcedure, CNoPath, CNoBoard, CNoNumber, CNoDeed, CNoWidth, CNoTable, CNoClass, CNoState, CNoClasses, CNoClaims, CNoOrder, CNoFault, CNoMany, CNoList, CNoIndex, CNoDeeds, CNotLet, CNoReplica, CHeld, CNoBook, CNoRun, CNoHistory, CNoVectors, CNoEquations, CNoEquation, CNoSender, CTooMany, CNoText].all fun C => decide (PySem.W.kitOne K (.ref D) (.ref C) = some (D == C))) = true)
    (allB : ([CNoCells, CNoProcedure, CNoPath, CNoBoard, CNoNumber, CNoDeed, CNoWidth, CNoTable, CNoClass, CNoState, CNoClasses, CNoClaims, CNoOrder, CNoFault, CNoMany, CNoList, CNoIndex, CNoDeeds, CNotLet, CNoReplica, CHeld, CNoBook, CNoRun, CNoHistory, CNoVectors, CNoEquations, CNoEquation, CNoSender, CTooMany, CNoText].all fun D => decide (PySem.W.kitOne K (.ref D) (.ref CBoardError) = some true)) = true)
    (allV : ((CBoardError :: [CNoCells, CNoProcedure, CNoPath, CNoBoard, CNoNumber, CNoDeed, CNoWidth, CNoTable, CNoClass, CNoState, CNoClasses, CNoClaims, CNoOrder, CNoFault, CNoMany, CNoList, CNoIndex, CNoDeeds, CNotLet, CNoReplica, CHeld, CNoBook, CNoRun, CNoHistory, CNoVectors, CNoEquations, CNoEquation, CNoSender, CTooMany, CNoText]).all fun D => decide (PySem.W.kitOne K (.ref D) (.type "ValueError") = some true)) = true)
    (allF : [CNoCells, CNoProcedure, CNoPath, CNoBoard, CNoNumber, CNoDeed, CNoWidth, CNoTable, CNoClass, CNoState, CNoClasses, CNoClaims, CNoOrder, CNoFault, CNoMany, CNoList, CNoIndex, CNoDeeds, CNotLet, CNoReplica, CHeld, CNoBook, CNoRun, CNoHistory, CNoVectors, CNoEquations, CNoEquation, CNoSender, CTooMany, CNoText].all (My.fiveB K) = true)
    (allN : (CBoardError :: [CNoCells, CNoProcedure, CNoPath, CNoBoard, CNoNumber, CNoDeed, CNoWidth, CNoTable, CNoClass, CNoState, CNoClasses, CNoClaims, CNoOrder, CNoFault, CNoMany, CNoList, CNoIndex, CNoDeeds, CNotLet, CNoReplica, CHeld, CNoBook, CNoRun, CNoHistory, CNoVectors, CNoEquations, CNoEquation, CNoSender, CTooMany, CNoText]).Nodup)
    (sNoBookBoardError : PySem.W.subIn K (.ref CNoBook) (.ref CBoardError) = some true)
    (acopied : PySem.W.nsIn K mainGlobals "copied" = some (some (.ref fcopied)))
    (lcopied : K.lookup fcopied = some ⟨occopied, odcopied, .func (PySem.W.fnOf "copied" "copied" (defArgs scopied) (defBody scopied) (defScope scopied) .none kVcopied dccopied pmcopied ancopied cdcopied ctcopied), slcopied⟩)
    (ccopied : PySem.W.codeIn K cdcopied "copied" = true)
    (kcopied : PySem.W.keepIn K (.ref fcopied) = true)
    (a_law_pool : PySem.W.nsIn K mainGlobals "_law_pool" = some (some (.ref f_law_pool)))
    (l_law_pool : K.lookup f_law_pool = some ⟨oc_law_pool, od_law_pool, .func (PySem.W.fnOf "_law_pool" "_law_pool" (defArgs s_law_pool) (defBody s_law_pool) (defScope s_law_pool) .none kV_law_pool dc_law_pool pm_law_pool an_law_pool cd_law_pool ct_law_pool), sl_law_pool⟩)
    (c_law_pool : PySem.W.codeIn K cd_law_pool "_law_pool" = true)
    (k_law_pool : PySem.W.keepIn K (.ref f_law_pool) = true)
    (a_law_draw : PySem.W.nsIn K mainGlobals "_law_draw" = some (some (.ref f_law_draw)))
    (l_law_draw : K.lookup f_law_draw = some ⟨oc_law_draw, od_law_draw, .func (PySem.W.fnOf "_law_draw" "_law_draw" (defArgs s_law_draw) (defBody s_law_draw) (defScope s_law_draw) .none kV_law_draw dc_law_draw pm_law_draw an_law_draw cd_law_draw ct_law_draw), sl_law_draw⟩)
    (c_law_draw : PySem.W.codeIn K cd_law_draw "_law_draw" = true)
    (k_law_draw : PySem.W.keepIn K (.ref f_law_draw) = true)
    (a_law_number : PySem.W.nsIn K mainGlobals "_law_number" = some (some (.ref f_law_number)))
    (l_law_number : K.lookup f_law_number = some ⟨oc_law_number, od_law_number, .func (PySem.W.fnOf "_law_number" "_law_number" (defArgs s_law_number) (defBody s_law_number) (defScope s_law_number) .none kV_law_number dc_law_number pm_law_number an_law_number cd_law_number ct_law_number), sl_law_number⟩)
    (c_law_number : PySem.W.codeIn K cd_law_number "_law_number" = true)
    (k_law_number : PySem.W.keepIn K (.ref f_law_number) = true)
    (a_law_same : PySem.W.nsIn K mainGlobals "_law_same" = some (some (.ref f_law_same)))
    (l_law_same : K.lookup f_law_same = some ⟨oc_law_same, od_law_same, .func (PySem.W.fnOf "_law_same" "_law_same" (defArgs s_law_same) (defBody s_law_same) (defScope s_law_same) .none kV_law_same dc_law_same pm_law_same an_law_same cd_law_same ct_law_same), sl_law_same⟩)
    (c_law_same : PySem.W.codeIn K cd_law_same "_law_same" = true)
    (k_law_same : PySem.W.keepIn K (.ref f_law_same) = true)
    (a_law_kinds : PySem.W.nsIn K mainGlobals "_law_kinds" = some (some (.ref f_law_kinds)))
    (l_law_kinds : K.lookup f_law_kinds = some ⟨oc_law_kinds, od_law_kinds, .func (PySem.W.fnOf "_law_kinds" "_law_kinds" (defArgs s_law_kinds) (defBody s_law_kinds) (defScope s_law_kinds) .none kV_law_kinds dc_law_kinds pm_law_kinds an_law_kinds cd_law_kinds ct_law_kinds), sl_law_kinds⟩)
    (c_law_kinds : PySem.W.codeIn K cd_law_kinds "_law_kinds" = true)
    (k_law_kinds : PySem.W.keepIn K (.ref f_law_kinds) = true)
    (a_law_made : PySem.W.nsIn K mainGlobals "_law_made" = some (some (.ref f_law_made)))
    (l_law_made : K.lookup f_law_made = some ⟨oc_law_made, od_law_made, .func (PySem.W.fnOf "_law_made" "_law_made" (defArgs s_law_made) (defBody s_law_made) (defScope s_law_made) .none kV_law_made dc_law_made pm_law_made an_law_made cd_law_made ct_law_made), sl_law_made⟩)
    (c_law_made : PySem.W.codeIn K cd_law_made "_law_made" = true)
    (k_law_made : PySem.W.keepIn K (.ref f_law_made) = true)
    (a_law_thing : PySem.W.nsIn K mainGlobals "_law_thing" = some (some (.ref f_law_thing)))
    (l_law_thing : K.lookup f_law_thing = some ⟨oc_law_thing, od_law_thing, .func (PySem.W.fnOf "_law_thing" "_law_thing" (defArgs s_law_thing) (defBody s_law_thing) (defScope s_law_thing) .none kV_law_thing dc_law_thing pm_law_thing an_law_thing cd_law_thing ct_law_thing), sl_law_thing⟩)
    (c_law_thing : PySem.W.codeIn K cd_law_thing "_law_thing" = true)
    (k_law_thing : PySem.W.keepIn K (.ref f_law_thing) = true)
    (a_law_foreign : PySem.W.nsIn K mainGlobals "_law_foreign" = some (some (.ref f_law_foreign)))
    (l_law_foreign : K.lookup f_law_foreign = some ⟨oc_law_foreign, od_law_foreign, .func (PySem.W.fnOf "_law_foreign" "_law_foreign" (defArgs s_law_foreign) (defBody s_law_foreign) (defScope s_law_foreign) .none kV_law_foreign dc_law_foreign pm_law_foreign an_law_foreign cd_law_foreign ct_law_foreign), sl_law_foreign⟩)
    (c_law_foreign : PySem.W.codeIn K cd_law_foreign "_law_foreign" = true)
    (k_law_foreign : PySem.W.keepIn K (.ref f_law_foreign) = true)
    (alaw : PySem.W.nsIn K mainGlobals "law" = some (some (.ref flaw)))
    (llaw : K.lookup flaw = some ⟨oclaw, odlaw, .func (PySem.W.fnOf "law" "law" (defArgs slaw) (defBody slaw) (defScope slaw) .none kVlaw dclaw pmlaw anlaw cdlaw ctlaw), sllaw⟩)
    (claw : PySem.W.codeIn K cdlaw "law" = true)
    (klaw : PySem.W.keepIn K (.ref flaw) = true)
    (y_int : PySem.W.nsIn K mainGlobals "int" = some none)
    (y_len : PySem.W.nsIn K mainGlobals "len" = some none)
    (y_list : PySem.W.nsIn K mainGlobals "list" = some none)
    (y_tuple : PySem.W.nsIn K mainGlobals "tuple" = some none)
    (y_range : PySem.W.nsIn K mainGlobals "range" = some none)
    (y_isinstance : PySem.W.nsIn K mainGlobals "isinstance" = some none)
    (y_bool : PySem.W.nsIn K mainGlobals "bool" = some none)
    (y_str : PySem.W.nsIn K mainGlobals "str" = some none)
    (y_dict : PySem.W.nsIn K mainGlobals "dict" = some none)
    (y_ValueError : PySem.W.nsIn K mainGlobals "ValueError" = some none)
    (y_KeyError : PySem.W.nsIn K mainGlobals "KeyError" = some none)
    (y_IndexError : PySem.W.nsIn K mainGlobals "IndexError" = some none)
    (y_TypeError : PySem.W.nsIn K mainGlobals "TypeError" = some none)
    (y_ZeroDivisionError : PySem.W.nsIn K mainGlobals "ZeroDivisionError" = some none)
    (y_AttributeError : PySem.W.nsIn K mainGlobals "AttributeError" = some none) :
    ∃ fd : FuncData, (∀ (s : Shared) (v : Value), BindsTo s fd ⟨[v], []⟩ [("script", v)]) ∧ ∀ base : Heap, K.In base → base.Ns mainGlobals mg → FnOk l.prog w K mg base CX0 19 fa fd ["script"] (spLaw K) := by
  have e := hfa.symm.trans (PySem.W.mg_of X G alaw)
  cases e
  have gBoardError := PySem.W.mg_of X G aBoardError
  have gNoCells := PySem.W.mg_of X G aNoCells
  have gNoProcedure := PySem.W.mg_of X G aNoProcedure
  have gNoPath := PySem.W.mg_of X G aNoPath
  have gNoBoard := PySem.W.mg_of X G aNoBoard
  have gNoNumber := PySem.W.mg_of X G aNoNumber
  have gNoDeed := PySem.W.mg_of X G aNoDeed
  have gNoWidth := PySem.W.mg_of X G aNoWidth
  have gNoTable := PySem.W.mg_of X G aNoTable
  have gNoClass := PySem.W.mg_of X G aNoClass
  have gNoState := PySem.W.mg_of X G aNoState
  have gNoClasses := PySem.W.mg_of X G aNoClasses
  have gNoClaims := PySem.W.mg_of X G aNoClaims
  have gNoOrder := PySem.W.mg_of X G aNoOrder
  have gNoFault := PySem.W.mg_of X G aNoFault
  have gNoMany := PySem.W.mg_of X G aNoMany
  have gNoList := PySem.W.mg_of X G aNoList
  have gNoIndex := PySem.W.mg_of X G aNoIndex
  have gNoDeeds := PySem.W.mg_of X G aNoDeeds
  have gNotLet := PySem.W.mg_of X G aNotLet
  have gNoReplica := PySem.W.mg_of X G aNoReplica
  have gHeld := PySem.W.mg_of X G aHeld
  have gNoBook := PySem.W.mg_of X G aNoBook
  have FNoBook___init__ := fun_mk (st := sNoBook___init__) lNoBook___init__ cNoBook___init__ kNoBook___init__
  have bNoBook___init__ := FNoBook___init__.binds (ps := ["self", "procedure", "path"]) fun _ _ _ _ _ _ us hl => match us, hl with | [_, _, _], _ => rfl
  have TNoBook : L2.OexC K CNoBook := ⟨⟨_, _, _, _, _, _, _, _, _, _, _, _, _, _, _, xNoBook, rNoBook⟩, saNoBook, bNoBook, tNoBook, kNoBook⟩
  have gNoRun := PySem.W.mg_of X G aNoRun
  have FNoRun___init__ := fun_mk (st := sNoRun___init__) lNoRun___init__ cNoRun___init__ kNoRun___init__
  have bNoRun___init__ := FNoRun___init__.binds (ps := ["self", "index"]) fun _ _ _ _ _ _ us hl => match us, hl with | [_, _], _ => rfl
  have TNoRun : L2.OexC K CNoRun := ⟨⟨_, _, _, _, _, _, _, _, _, _, _, _, _, _, _, xNoRun, rNoRun⟩, saNoRun, bNoRun, tNoRun, kNoRun⟩
  have gNoHistory := PySem.W.mg_of X G aNoHistory
  have FNoHistory___init__ := fun_mk (st := sNoHistory___init__) lNoHistory___init__ cNoHistory___init__ kNoHistory___init__
  have bNoHistory___init__ := FNoHistory___init__.binds (ps := ["self", "index"]) fun _ _ _ _ _ _ us hl => match us, hl with | [_, _], _ => rfl
  have TNoHistory : L2.OexC K CNoHistory := ⟨⟨_, _, _, _, _, _, _, _, _, _, _, _, _, _, _, xNoHistory, rNoHistory⟩, saNoHistory, bNoHistory, tNoHistory, kNoHistory⟩
  have gNoVectors := PySem.W.mg_of X G aNoVectors
  have FNoVectors___init__ := fun_mk (st := sNoVectors___init__) lNoVectors___init__ cNoVectors___init__ kNoVectors___init__
  have bNoVectors___init__ := FNoVectors___init__.binds (ps := ["self", "index"]) fun _ _ _ _ _ _ us hl => match us, hl with | [_, _], _ => rfl
  have TNoVectors : L2.OexC K CNoVectors := ⟨⟨_, _, _, _, _, _, _, _, _, _, _, _, _, _, _, xNoVectors, rNoVectors⟩, saNoVectors, bNoVectors, tNoVectors, kNoVectors⟩
  have gNoEquations := PySem.W.mg_of X G aNoEquations
  have FNoEquations___init__ := fun_mk (st := sNoEquations___init__) lNoEquations___init__ cNoEquations___init__ kNoEquations___init__
  have bNoEquations___init__ := FNoEquations___init__.binds (ps := ["self", "index"]) fun _ _ _ _ _ _ us hl => match us, hl with | [_, _], _ => rfl
  have TNoEquations : L2.OexC K CNoEquations := ⟨⟨_, _, _, _, _, _, _, _, _, _, _, _, _, _, _, xNoEquations, rNoEquations⟩, saNoEquations, bNoEquations, tNoEquations, kNoEquations⟩
  have gNoEquation := PySem.W.mg_of X G aNoEquation
  have FNoEquation___init__ := fun_mk (st := sNoEquation___init__) lNoEquation___init__ cNoEquation___init__ kNoEquation___init__
  have bNoEquation___init__ := FNoEquation___init__.binds (ps := ["self", "place"]) fun _ _ _ _ _ _ us hl => match us, hl with | [_, _], _ => rfl
  have TNoEquation : L2.OexC K CNoEquation := ⟨⟨_, _, _, _, _, _, _, _, _, _, _, _, _, _, _, xNoEquation, rNoEquation⟩, saNoEquation, bNoEquation, tNoEquation, kNoEquation⟩
  have gNoSender := PySem.W.mg_of X G aNoSender
  have FNoSender___init__ := fun_mk (st := sNoSender___init__) lNoSender___init__ cNoSender___init__ kNoSender___init__
  have bNoSender___init__ := FNoSender___init__.binds (ps := ["self", "state"]) fun _ _ _ _ _ _ us hl => match us, hl with | [_, _], _ => rfl
  have TNoSender : L2.OexC K CNoSender := ⟨⟨_, _, _, _, _, _, _, _, _, _, _, _, _, _, _, xNoSender, rNoSender⟩, saNoSender, bNoSender, tNoSender, kNoSender⟩
  have gTooMany := PySem.W.mg_of X G aTooMany
  have FTooMany___init__ := fun_mk (st := sTooMany___init__) lTooMany___init__ cTooMany___init__ kTooMany___init__
  have bTooMany___init__ := FTooMany___init__.binds (ps := ["self", "many"]) fun _ _ _ _ _ _ us hl => match us, hl with | [_, _], _ => rfl
  have TTooMany : L2.OexC K CTooMany := ⟨⟨_, _, _, _, _, _, _, _, _, _, _, _, _, _, _, xTooMany, rTooMany⟩, saTooMany, bTooMany, tTooMany, kTooMany⟩
  have gNoText := PySem.W.mg_of X G aNoText
  have FNoText___init__ := fun_mk (st := sNoText___init__) lNoText___init__ cNoText___init__ kNoText___init__
  have bNoText___init__ := FNoText___init__.binds (ps := ["self", "line"]) fun _ _ _ _ _ _ us hl => match us, hl with | [_, _], _ => rfl
  have TNoText : L2.OexC K CNoText := ⟨⟨_, _, _, _, _, _, _, _, _, _, _, _, _, _, _, xNoText, rNoText⟩, saNoText, bNoText, tNoText, kNoText⟩
  have eNoBookBoardError : PySem.W.exmOne K (.ref CNoBook) (.ref CBoardError) = some true := PySem.W.exm_ref bBoardError hdBoardError tBoardError sNoBookBoardError
  have Fcopied := fun_mk (st := scopied) lcopied ccopied kcopied
  have bcopied := Fcopied.binds (ps := ["value"]) fun _ _ _ _ _ _ us hl => match us, hl with | [_], _ => rfl
  have gcopied := PySem.W.mg_of X G acopied
  have F_law_pool := fun_mk (st := s_law_pool) l_law_pool c_law_pool k_law_pool
  have b_law_pool := F_law_pool.binds (ps := ["script"]) fun _ _ _ _ _ _ us hl => match us, hl with | [_], _ => rfl
  have g_law_pool := PySem.W.mg_of X G a_law_pool
  have F_law_draw := fun_mk (st := s_law_draw) l_law_draw c_law_draw k_law_draw
  have b_law_draw := F_law_draw.binds (ps := ["pool", "many"]) fun _ _ _ _ _ _ us hl => match us, hl with | [_, _], _ => rfl
  have g_law_draw := PySem.W.mg_of X G a_law_draw
  have F_law_number := fun_mk (st := s_law_number) l_law_number c_law_number k_law_number
  have b_law_number := F_law_number.binds (ps := ["pool"]) fun _ _ _ _ _ _ us hl => match us, hl with | [_], _ => rfl
  have g_law_number := PySem.W.mg_of X G a_law_number
  have F_law_same := fun_mk (st := s_law_same) l_law_same c_law_same k_law_same
  have b_law_same := F_law_same.binds (ps := ["actual", "due"]) fun _ _ _ _ _ _ us hl => match us, hl with | [_, _], _ => rfl
  have g_law_same := PySem.W.mg_of X G a_law_same
  have F_law_kinds := fun_mk (st := s_law_kinds) l_law_kinds c_law_kinds k_law_kinds
  have b_law_kinds := F_law_kinds.binds (ps := ["thing"]) fun _ _ _ _ _ _ us hl => match us, hl with | [_], _ => rfl
  have g_law_kinds := PySem.W.mg_of X G a_law_kinds
  have F_law_made := fun_mk (st := s_law_made) l_law_made c_law_made k_law_made
  have b_law_made := F_law_made.binds (ps := ["first", "second"]) fun _ _ _ _ _ _ us hl => match us, hl with | [_, _], _ => rfl
  have g_law_made := PySem.W.mg_of X G a_law_made
  have F_law_thing := fun_mk (st := s_law_thing) l_law_thing c_law_thing k_law_thing
  have b_law_thing := F_law_thing.binds (ps := ["pool"]) fun _ _ _ _ _ _ us hl => match us, hl with | [_], _ => rfl
  have g_law_thing := PySem.W.mg_of X G a_law_thing
  have F_law_foreign := fun_mk (st := s_law_foreign) l_law_foreign c_law_foreign k_law_foreign
  have b_law_foreign := F_law_foreign.binds (ps := ["thing"]) fun _ _ _ _ _ _ us hl => match us, hl with | [_], _ => rfl
  have g_law_foreign := PySem.W.mg_of X G a_law_foreign
  have Flaw := fun_mk (st := slaw) llaw claw klaw
  have blaw := Flaw.binds (ps := ["script"]) fun _ _ _ _ _ _ us hl => match us, hl with | [_], _ => rfl
  have glaw := PySem.W.mg_of X G alaw
  have z_int := PySem.W.mg_none_of X G y_int
  have z_len := PySem.W.mg_none_of X G y_len
  have z_list := PySem.W.mg_none_of X G y_list
  have z_tuple := PySem.W.mg_none_of X G y_tuple
  have z_range := PySem.W.mg_none_of X G y_range
  have z_isinstance := PySem.W.mg_none_of X G y_isinstance
  have z_bool := PySem.W.mg_none_of X G y_bool
  have z_str := PySem.W.mg_none_of X G y_str
  have z_dict := PySem.W.mg_none_of X G y_dict
  have z_ValueError := PySem.W.mg_none_of X G y_ValueError
  have z_KeyError := PySem.W.mg_none_of X G y_KeyError
  have z_IndexError := PySem.W.mg_none_of X G y_IndexError
  have z_TypeError := PySem.W.mg_none_of X G y_TypeError
  have z_ZeroDivisionError := PySem.W.mg_none_of X G y_ZeroDivisionError
  have z_AttributeError := PySem.W.mg_none_of X G y_AttributeError
  refine ⟨PySem.W.fnOf "law" "law" (defArgs slaw) (defBody slaw) (defScope slaw) .none kVlaw dclaw pmlaw anlaw cdlaw ctlaw, fun s v => .of_eq rfl, fun base _ _ => ?_⟩
  have Ccopied : Cal l.prog w K mg base 15 "copied" (spCopy K 15) [] := ⟨_, _, _, [], ok_copied Fcopied gcopied bcopied z_isinstance z_list z_tuple z_dict 15, gcopied, Fcopied.kp, bcopied, .nil⟩
  have ER : ∀ D ∈ (CBoardError :: [CNoCells, CNoProcedure, CNoPath, CNoBoard, CNoNumber, CNoDeed, CNoWidth, CNoTable, CNoClass, CNoState, CNoClasses, CNoClaims, CNoOrder, CNoFault, CNoMany, CNoList, CNoIndex, CNoDeeds, CNotLet, CNoReplica, CHeld, CNoBook, CNoRun, CNoHistory, CNoVectors, CNoEquations, CNoEquation, CNoSender, CTooMany, CNoText]), ErrC K D := fun D h => errB_ok (List.all_eq_true.mp allE D h)
  have KK : ∀ D ∈ (CBoardError :: [CNoCells, CNoProcedure, CNoPath, CNoBoard, CNoNumber, CNoDeed, CNoWidth, CNoTable, CNoClass, CNoState, CNoClasses, CNoClaims, CNoOrder, CNoFault, CNoMany, CNoList, CNoIndex, CNoDeeds, CNotLet, CNoReplica, CHeld, CNoBook, CNoRun, CNoHistory, CNoVectors, CNoEquations, CNoEquation, CNoSender, CTooMany, CNoText]), ∀ C ∈ [CNoCells, CNoProcedure, CNoPath, CNoBoard, CNoNumber, CNoDeed, CNoWidth, CNoTable, CNoClass, CNoState, CNoClasses, CNoClaims, CNoOrder, CNoFault, CNoMany, CNoList, CNoIndex, CNoDeeds, CNotLet, CNoReplica, CHeld, CNoBook, CNoRun, CNoHistory, CNoVectors, CNoEquations, CNoEquation, CNoSender, CTooMany, CNoText], PySem.W.kitOne K (.ref D) (.ref C) = some (D == C) := fun D h C h2 => of_decide_eq_true (List.all_eq_true.mp (List.all_eq_true.mp allK D h) C h2)
  have ONoBook := ok_eNoBook (P := l.prog) (w := w) (base := base) (k := 15) FNoBook___init__ TNoBook nNoBook_procedure nNoBook_path Ccopied (by decide)
  have ONoRun := ok_eNoRun (P := l.prog) (w := w) (base := base) (k := 15) FNoRun___init__ TNoRun nNoRun_index Ccopied (by decide)
  have ONoHistory := ok_eNoHistory (P := l.prog) (w := w) (base := base) (k := 15) FNoHistory___init__ TNoHistory nNoHistory_index Ccopied (by decide)
  have ONoVectors := ok_eNoVectors (P := l.prog) (w := w) (base := base) (k := 15) FNoVectors___init__ TNoVectors nNoVectors_index Ccopied (by decide)
  have ONoEquations := ok_eNoEquations (P := l.prog) (w := w) (base := base) (k := 15) FNoEquations___init__ TNoEquations nNoEquations_index Ccopied (by decide)
  have ONoEquation := ok_eNoEquation (P := l.prog) (w := w) (base := base) (k := 15) FNoEquation___init__ TNoEquation nNoEquation_place Ccopied (by decide)
  have ONoSender := ok_eNoSender (P := l.prog) (w := w) (base := base) (k := 15) FNoSender___init__ TNoSender nNoSender_state Ccopied (by decide)
  have OTooMany := ok_eTooMany (P := l.prog) (w := w) (base := base) (k := 15) FTooMany___init__ TTooMany nTooMany_many Ccopied (by decide)
  have ONoText := ok_eNoText (P := l.prog) (w := w) (base := base) (k := 15) FNoText___init__ TNoText nNoText_line Ccopied (by decide)
  have C_law_pool : Cal l.prog w K mg base 1 "_law_pool" (spPool K) [] := ⟨_, _, _, [], ok_pool F_law_pool z_int z_list, g_law_pool, F_law_pool.kp, b_law_pool, .nil⟩
  have C_law_draw : Cal l.prog w K mg base 1 "_law_draw" spDraw [] := ⟨_, _, _, [], ok_draw F_law_draw z_int z_len, g_law_draw, F_law_draw.kp, b_law_draw, .nil⟩
  have C_law_number : Cal l.prog w K mg base 2 "_law_number" spNumber [] := ⟨_, _, _, [], ok_number F_law_number C_law_draw (by decide), g_law_number, F_law_number.kp, b_law_number, .nil⟩
  have C_law_same : Cal l.prog w K mg base 15 "_law_same" (spSame K 15) [] := ⟨_, _, _, [], ok_same F_law_same g_law_same b_law_same z_len z_isinstance z_bool z_int z_str z_list z_tuple z_range 15, g_law_same, F_law_same.kp, b_law_same, .nil⟩
  have C_law_kinds : Cal l.prog w K mg base 1 "_law_kinds" (spKinds K [CNoCells, CNoProcedure, CNoPath, CNoBoard, CNoNumber, CNoDeed, CNoWidth, CNoTable, CNoClass, CNoState, CNoClasses, CNoClaims, CNoOrder, CNoFault, CNoMany, CNoList, CNoIndex, CNoDeeds, CNotLet, CNoReplica, CHeld, CNoBook, CNoRun, CNoHistory, CNoVectors, CNoEquations, CNoEquation, CNoSender, CTooMany, CNoText] (CBoardError :: [CNoCells, CNoProcedure, CNoPath, CNoBoard, CNoNumber, CNoDeed, CNoWidth, CNoTable, CNoClass, CNoState, CNoClasses, CNoClaims, CNoOrder, CNoFault, CNoMany, CNoList, CNoIndex, CNoDeeds, CNotLet, CNoReplica, CHeld, CNoBook, CNoRun, CNoHistory, CNoVectors, CNoEquations, CNoEquation, CNoSender, CTooMany, CNoText])) [] := ⟨_, _, _, [], ok_kinds (k := 0) F_law_kinds z_isinstance gNoCells gNoProcedure gNoPath gNoBoard gNoNumber gNoDeed gNoWidth gNoTable gNoClass gNoState gNoClasses gNoClaims gNoOrder gNoFault gNoMany gNoList gNoIndex gNoDeeds gNotLet gNoReplica gHeld gNoBook gNoRun gNoHistory gNoVectors gNoEquations gNoEquation gNoSender gTooMany gNoText ER KK, g_law_kinds, F_law_kinds.kp, b_law_kinds, .nil⟩
  have C_law_foreign : Cal l.prog w K mg base 1 "_law_foreign" (spForeign [CNoCells, CNoProcedure, CNoPath, CNoBoard, CNoNumber, CNoDeed, CNoWidth, CNoTable, CNoClass, CNoState, CNoClasses, CNoClaims, CNoOrder, CNoFault, CNoMany, CNoList, CNoIndex, CNoDeeds, CNotLet, CNoReplica, CHeld, CNoBook, CNoRun, CNoHistory, CNoVectors, CNoEquations, CNoEquation, CNoSender, CTooMany, CNoText]) [] := ⟨_, _, _, [], ok_foreign (k := 0) F_law_foreign z_isinstance z_KeyError z_IndexError z_TypeError z_ZeroDivisionError z_AttributeError (fun D h => ER D (List.mem_cons_of_mem _ h)) (List.all_eq_true.mp allF), g_law_foreign, F_law_foreign.kp, b_law_foreign, .nil⟩
  have C_law_made : Cal l.prog w K mg base 18 "_law_made" (spMade K [CNoCells, CNoProcedure, CNoPath, CNoBoard, CNoNumber, CNoDeed, CNoWidth, CNoTable, CNoClass, CNoState, CNoClasses, CNoClaims, CNoOrder, CNoFault, CNoMany, CNoList, CNoIndex, CNoDeeds, CNotLet, CNoReplica, CHeld, CNoBook, CNoRun, CNoHistory, CNoVectors, CNoEquations, CNoEquation, CNoSender, CTooMany, CNoText]) [] := ⟨_, _, _, [], ok_made (k := 17) F_law_made gNoCells xNoCells kNoCells gNoProcedure xNoProcedure kNoProcedure gNoPath xNoPath kNoPath gNoBoard xNoBoard kNoBoard gNoNumber xNoNumber kNoNumber gNoDeed xNoDeed kNoDeed gNoWidth xNoWidth kNoWidth gNoTable xNoTable kNoTable gNoClass xNoClass kNoClass gNoState xNoState kNoState gNoClasses xNoClasses kNoClasses gNoClaims xNoClaims kNoClaims gNoOrder xNoOrder kNoOrder gNoFault xNoFault kNoFault gNoMany xNoMany kNoMany gNoList xNoList kNoList gNoIndex xNoIndex kNoIndex gNoDeeds xNoDeeds kNoDeeds gNotLet xNotLet kNotLet gNoReplica xNoReplica kNoReplica gHeld xHeld kHeld gNoBook TNoBook aNoBook___init__ tiNoBook ONoBook bNoBook___init__ gNoRun TNoRun aNoRun___init__ tiNoRun ONoRun bNoRun___init__ gNoHistory TNoHistory aNoHistory___init__ tiNoHistory ONoHistory bNoHistory___init__ gNoVectors TNoVectors aNoVectors___init__ tiNoVectors ONoVectors bNoVectors___init__ gNoEquations TNoEquations aNoEquations___init__ tiNoEquations ONoEquations bNoEquations___init__ gNoEquation TNoEquation aNoEquation___init__ tiNoEquation ONoEquation bNoEquation___init__ gNoSender TNoSender aNoSender___init__ tiNoSender ONoSender bNoSender___init__ gTooMany TTooMany aTooMany___init__ tiTooMany OTooMany bTooMany___init__ gNoText TNoText aNoText___init__ tiNoText ONoText bNoText___init__ (by decide), g_law_made, F_law_made.kp, b_law_made, .nil⟩
  have C_law_thing : Cal l.prog w K mg base 3 "_law_thing" (spThing K) [] := ⟨_, _, _, [], ok_thing (k := 2) F_law_thing C_law_draw C_law_number (by decide), g_law_thing, F_law_thing.kp, b_law_thing, .nil⟩
  exact ok_law (k := 18) Flaw z_len z_range z_isinstance z_ValueError gNoBook TNoBook aNoBook___init__ tiNoBook ONoBook bNoBook___init__ gNoRun TNoRun aNoRun___init__ tiNoRun ONoRun bNoRun___init__ (ER _ (by simp)) nNoRun_index gNoHistory TNoHistory aNoHistory___init__ tiNoHistory ONoHistory bNoHistory___init__ (ER _ (by simp)) nNoHistory_index gNoVectors TNoVectors aNoVectors___init__ tiNoVectors ONoVectors bNoVectors___init__ (ER _ (by simp)) nNoVectors_index gNoEquations TNoEquations aNoEquations___init__ tiNoEquations ONoEquations bNoEquations___init__ (ER _ (by simp)) nNoEquations_index gNoEquation TNoEquation aNoEquation___init__ tiNoEquation ONoEquation bNoEquation___init__ (ER _ (by simp)) nNoEquation_place gNoSender TNoSender aNoSender___init__ tiNoSender ONoSender bNoSender___init__ (ER _ (by simp)) nNoSender_state gTooMany TTooMany aTooMany___init__ tiTooMany OTooMany bTooMany___init__ (ER _ (by simp)) nTooMany_many gNoText TNoText aNoText___init__ tiNoText ONoText bNoText___init__ (ER _ (by simp)) nNoText_line (ER _ (by simp)) nNoBook_procedure nNoBook_path (L2.xfB_ok xfNoBook) eNoBookBoardError gBoardError xBoardError kBoardError ER (fun D h => of_decide_eq_true (List.all_eq_true.mp allB D h)) (fun D h => of_decide_eq_true (List.all_eq_true.mp allV D h)) allN (by simp) C_law_pool C_law_thing C_law_made C_law_kinds C_law_foreign C_law_same (by decide)
end My
open PySem PySem.W PyProof.Rows
set_option maxHeartbeats 0 in
theorem PySem.Challenge.cw_sharedboard_k00_errors_holds : PySem.Challenge.rw_sharedboard_k00_errors.Holds := by
  w_on; o_law; k_head; (case hw => w_witness2)
  k_fill
  refine L2.walk_of (l := PySem.Challenge.rw_sharedboard_k00_errors) (n := 63) (k := 19) (x := "script") (CX := fun _ => L2.CX0) (sp := fun w => My.spLaw _) rfl (by decide) rfl ⟨rfl, by decide, by decide⟩ (fun w h Y => PySem.W.kIn_of Y) ?F (fun _ _ a ns hl _ hS => ⟨a, ns, rfl, hS, fun _ => rfl⟩) (fun _ _ _ _ _ h => h)
  case F =>
    intro w mg fa h KX G hmg
    refine' My.all_mk KX G hmg ?aBoardError ?xBoardError ?kBoardError ?bBoardError ?tBoardError ?hdBoardError ?aNoCells ?xNoCells ?kNoCells ?aNoProcedure ?xNoProcedure ?kNoProcedure ?aNoPath ?xNoPath ?kNoPath ?aNoBoard ?xNoBoard ?kNoBoard ?aNoNumber ?xNoNumber ?kNoNumber ?aNoDeed ?xNoDeed ?kNoDeed ?aNoWidth ?xNoWidth ?kNoWidth ?aNoTable ?xNoTable ?kNoTable ?aNoClass ?xNoClass ?kNoClass ?aNoState ?xNoState ?kNoState ?aNoClasses ?xNoClasses ?kNoClasses ?aNoClaims ?xNoClaims ?kNoClaims ?aNoOrder ?xNoOrder ?kNoOrder ?aNoFault ?xNoFault ?kNoFault ?aNoMany ?xNoMany ?kNoMany ?aNoList ?xNoList ?kNoList ?aNoIndex ?xNoIndex ?kNoIndex ?aNoDeeds ?xNoDeeds ?kNoDeeds ?aNotLet ?xNotLet ?kNotLet ?aNoReplica ?xNoReplica ?kNoReplica ?aHeld ?xHeld ?kHeld ?aNoBook ?xNoBook ?rNoBook ?saNoBook ?kNoBook ?bNoBook ?tNoBook ?hdNoBook ?xfNoBook ?nNoBook_procedure ?nNoBook_path ?aNoBook___init__ ?iNoBook___init__ ?lNoBook___init__ ?cNoBook___init__ ?kNoBook___init__ ?tiNoBook ?aNoRun ?xNoRun ?rNoRun ?saNoRun ?kNoRun ?bNoRun ?tNoRun ?hdNoRun ?xfNoRun ?nNoRun_index ?aNoRun___init__ ?iNoRun___init__ ?lNoRun___init__ ?cNoRun___init__ ?kNoRun___init__ ?tiNoRun ?aNoHistory ?xNoHistory ?rNoHistory ?saNoHistory ?kNoHistory ?bNoHistory ?tNoHistory ?hdNoHistory ?xfNoHistory ?nNoHistory_index ?aNoHistory___init__ ?iNoHistory___init__ ?lNoHistory___init__ ?cNoHistory___init__ ?kNoHistory___init__ ?tiNoHistory ?aNoVectors ?xNoVectors ?rNoVectors ?saNoVectors ?kNoVectors ?bNoVectors ?tNoVectors ?hdNoVectors ?xfNoVectors ?nNoVectors_index ?aNoVectors___init__ ?iNoVectors___init__ ?lNoVectors___init__ ?cNoVectors___init__ ?kNoVectors___init__ ?tiNoVectors ?aNoEquations ?xNoEquations ?rNoEquations ?saNoEquations ?kNoEquations ?bNoEquations ?tNoEquations ?hdNoEquations ?xfNoEquations ?nNoEquations_index ?aNoEquations___init__ ?iNoEquations___init__ ?lNoEquations___init__ ?cNoEquations___init__ ?kNoEquations___init__ ?tiNoEquations ?aNoEquation ?xNoEquation ?rNoEquation ?saNoEquation ?kNoEquation ?bNoEquation ?tNoEquation ?hdNoEquation ?xfNoEquation ?nNoEquation_place ?aNoEquation___init__ ?iNoEquation___init__ ?lNoEquation___init__ ?cNoEquation___init__ ?kNoEquation___init__ ?tiNoEquation ?aNoSender ?xNoSender ?rNoSender ?saNoSender ?kNoSender ?bNoSender ?tNoSender ?hdNoSender ?xfNoSender ?nNoSender_state ?aNoSender___init__ ?iNoSender___init__ ?lNoSender___init__ ?cNoSender___init__ ?kNoSender___init__ ?tiNoSender ?aTooMany ?xTooMany ?rTooMany ?saTooMany ?kTooMany ?bTooMany ?tTooMany ?hdTooMany ?xfTooMany ?nTooMany_many ?aTooMany___init__ ?iTooMany___init__ ?lTooMany___init__ ?cTooMany___init__ ?kTooMany___init__ ?tiTooMany ?aNoText ?xNoText ?rNoText ?saNoText ?kNoText ?bNoText ?tNoText ?hdNoText ?xfNoText ?nNoText_line ?aNoText___init__ ?iNoText___init__ ?lNoText___init__ ?cNoText___init__ ?kNoText___init__ ?tiNoText ?allE ?allK ?allB ?allV ?allF ?allN ?sNoBookBoardError ?acopied ?lcopied ?ccopied ?kcopied ?a_law_pool ?l_law_pool ?c_law_pool ?k_law_pool ?a_law_draw ?l_law_draw ?c_law_draw ?k_law_draw ?a_law_number ?l_law_number ?c_law_number ?k_law_number ?a_law_same ?l_law_same ?c_law_same ?k_law_same ?a_law_kinds ?l_law_kinds ?c_law_kinds ?k_law_kinds ?a_law_made ?l_law_made ?c_law_made ?k_law_made ?a_law_thing ?l_law_thing ?c_law_thing ?k_law_thing ?a_law_foreign ?l_law_foreign ?c_law_foreign ?k_law_foreign ?alaw ?llaw ?claw ?klaw ?y_int ?y_len ?y_list ?y_tuple ?y_range ?y_isinstance ?y_bool ?y_str ?y_dict ?y_ValueError ?y_KeyError ?y_IndexError ?y_TypeError ?y_ZeroDivisionError ?y_AttributeError
    (case aBoardError => k_is)
    (case xBoardError => k_exc)
    (case kBoardError => k_is)
    (case bBoardError => k_is)
    (case tBoardError => k_is)
    (case hdBoardError => k_is)
    (case aNoCells => k_is)
    (case xNoCells => k_exc)
    (case kNoCells => k_is)
    (case aNoProcedure => k_is)
    (case xNoProcedure => k_exc)
    (case kNoProcedure => k_is)
    (case aNoPath => k_is)
    (case xNoPath => k_exc)
    (case kNoPath => k_is)
    (case aNoBoard => k_is)
    (case xNoBoard => k_exc)
    (case kNoBoard => k_is)
    (case aNoNumber => k_is)
    (case xNoNumber => k_exc)
    (case kNoNumber => k_is)
    (case aNoDeed => k_is)
    (case xNoDeed => k_exc)
    (case kNoDeed => k_is)
    (case aNoWidth => k_is)
    (case xNoWidth => k_exc)
    (case kNoWidth => k_is)
    (case aNoTable => k_is)
    (case xNoTable => k_exc)
    (case kNoTable => k_is)
    (case aNoClass => k_is)
    (case xNoClass => k_exc)
    (case kNoClass => k_is)
    (case aNoState => k_is)
    (case xNoState => k_exc)
    (case kNoState => k_is)
    (case aNoClasses => k_is)
    (case xNoClasses => k_exc)
    (case kNoClasses => k_is)
    (case aNoClaims => k_is)
    (case xNoClaims => k_exc)
    (case kNoClaims => k_is)
    (case aNoOrder => k_is)
    (case xNoOrder => k_exc)
    (case kNoOrder => k_is)
    (case aNoFault => k_is)
    (case xNoFault => k_exc)
    (case kNoFault => k_is)
    (case aNoMany => k_is)
    (case xNoMany => k_exc)
    (case kNoMany => k_is)
    (case aNoList => k_is)
    (case xNoList => k_exc)
    (case kNoList => k_is)
    (case aNoIndex => k_is)
    (case xNoIndex => k_exc)
    (case kNoIndex => k_is)
    (case aNoDeeds => k_is)
    (case xNoDeeds => k_exc)
    (case kNoDeeds => k_is)
    (case aNotLet => k_is)
    (case xNotLet => k_exc)
    (case kNotLet => k_is)
    (case aNoReplica => k_is)
    (case xNoReplica => k_exc)
    (case kNoReplica => k_is)
    (case aHeld => k_is)
    (case xHeld => k_exc)
    (case kHeld => k_is)
    (case aNoBook => k_is)
    (case xNoBook => k_is)
    (case rNoBook => first | rfl | decide +kernel | k_is)
    (case saNoBook => k_is)
    (case kNoBook => k_is)
    (case bNoBook => k_is)
    (case tNoBook => k_is)
    (case hdNoBook => k_is)
    (case xfNoBook => first | rfl | decide +kernel | k_is)
    (case nNoBook_procedure => k_is)
    (case nNoBook_path => k_is)
    (case aNoBook___init__ => k_is)
    (case iNoBook___init__ => k_is)
    (case lNoBook___init__ => k_is)
    (case cNoBook___init__ => k_is)
    (case kNoBook___init__ => k_is)
    (case tiNoBook => k_is)
    (case aNoRun => k_is)
    (case xNoRun => k_is)
    (case rNoRun => first | rfl | decide +kernel | k_is)
    (case saNoRun => k_is)
    (case kNoRun => k_is)
    (case bNoRun => k_is)
    (case tNoRun => k_is)
    (case hdNoRun => k_is)
    (case xfNoRun => first | rfl | decide +kernel | k_is)
    (case nNoRun_index => k_is)
    (case aNoRun___init__ => k_is)
    (case iNoRun___init__ => k_is)
    (case lNoRun___init__ => k_is)
    (case cNoRun___init__ => k_is)
    (case kNoRun___init__ => k_is)
    (case tiNoRun => k_is)
    (case aNoHistory => k_is)
    (case xNoHistory => k_is)
    (case rNoHistory => first | rfl | decide +kernel | k_is)
    (case saNoHistory => k_is)
    (case kNoHistory => k_is)
    (case bNoHistory => k_is)
    (case tNoHistory => k_is)
    (case hdNoHistory => k_is)
    (case xfNoHistory => first | rfl | decide +kernel | k_is)
    (case nNoHistory_index => k_is)
    (case aNoHistory___init__ => k_is)
    (case iNoHistory___init__ => k_is)
    (case lNoHistory___init__ => k_is)
    (case cNoHistory___init__ => k_is)
    (case kNoHistory___init__ => k_is)
    (case tiNoHistory => k_is)
    (case aNoVectors => k_is)
    (case xNoVectors => k_is)
    (case rNoVectors => first | rfl | decide +kernel | k_is)
    (case saNoVectors => k_is)
    (case kNoVectors => k_is)
    (case bNoVectors => k_is)
    (case tNoVectors => k_is)
    (case hdNoVectors => k_is)
    (case xfNoVectors => first | rfl | decide +kernel | k_is)
    (case nNoVectors_index => k_is)
    (case aNoVectors___init__ => k_is)
    (case iNoVectors___init__ => k_is)
    (case lNoVectors___init__ => k_is)
    (case cNoVectors___init__ => k_is)
    (case kNoVectors___init__ => k_is)
    (case tiNoVectors => k_is)
    (case aNoEquations => k_is)
    (case xNoEquations => k_is)
    (case rNoEquations => first | rfl | decide +kernel | k_is)
    (case saNoEquations => k_is)
    (case kNoEquations => k_is)
    (case bNoEquations => k_is)
    (case tNoEquations => k_is)
    (case hdNoEquations => k_is)
    (case xfNoEquations => first | rfl | decide +kernel | k_is)
    (case nNoEquations_index => k_is)
    (case aNoEquations___init__ => k_is)
    (case iNoEquations___init__ => k_is)
    (case lNoEquations___init__ => k_is)
    (case cNoEquations___init__ => k_is)
    (case kNoEquations___init__ => k_is)
    (case tiNoEquations => k_is)
    (case aNoEquation => k_is)
    (case xNoEquation => k_is)
    (case rNoEquation => first | rfl | decide +kernel | k_is)
    (case saNoEquation => k_is)
    (case kNoEquation => k_is)
    (case bNoEquation => k_is)
    (case tNoEquation => k_is)
    (case hdNoEquation => k_is)
    (case xfNoEquation => first | rfl | decide +kernel | k_is)
    (case nNoEquation_place => k_is)
    (case aNoEquation___init__ => k_is)
    (case iNoEquation___init__ => k_is)
    (case lNoEquation___init__ => k_is)
    (case cNoEquation___init__ => k_is)
    (case kNoEquation___init__ => k_is)
    (case tiNoEquation => k_is)
    (case aNoSender => k_is)
    (case xNoSender => k_is)
    (case rNoSender => first | rfl | decide +kernel | k_is)
    (case saNoSender => k_is)
    (case kNoSender => k_is)
    (case bNoSender => k_is)
    (case tNoSender => k_is)
    (case hdNoSender => k_is)
    (case xfNoSender => first | rfl | decide +kernel | k_is)
    (case nNoSender_state => k_is)
    (case aNoSender___init__ => k_is)
    (case iNoSender___init__ => k_is)
    (case lNoSender___init__ => k_is)
    (case cNoSender___init__ => k_is)
    (case kNoSender___init__ => k_is)
    (case tiNoSender => k_is)
    (case aTooMany => k_is)
    (case xTooMany => k_is)
    (case rTooMany => first | rfl | decide +kernel | k_is)
    (case saTooMany => k_is)
    (case kTooMany => k_is)
    (case bTooMany => k_is)
    (case tTooMany => k_is)
    (case hdTooMany => k_is)
    (case xfTooMany => first | rfl | decide +kernel | k_is)
    (case nTooMany_many => k_is)
    (case aTooMany___init__ => k_is)
    (case iTooMany___init__ => k_is)
    (case lTooMany___init__ => k_is)
    (case cTooMany___init__ => k_is)
    (case kTooMany___init__ => k_is)
    (case tiTooMany => k_is)
    (case aNoText => k_is)
    (case xNoText => k_is)
    (case rNoText => first | rfl | decide +kernel | k_is)
    (case saNoText => k_is)
    (case kNoText => k_is)
    (case bNoText => k_is)
    (case tNoText => k_is)
    (case hdNoText => k_is)
    (case xfNoText => first | rfl | decide +kernel | k_is)
    (case nNoText_line => k_is)
    (case aNoText___init__ => k_is)
    (case iNoText___init__ => k_is)
    (case lNoText___init__ => k_is)
    (case cNoText___init__ => k_is)
    (case kNoText___init__ => k_is)
    (case tiNoText => k_is)
    (case allE => first | rfl | decide +kernel | k_is)
    (case allK => first | rfl | decide +kernel | k_is)
    (case allB => first | rfl | decide +kernel | k_is)
    (case allV => first | rfl | decide +kernel | k_is)
    (case allF => first | rfl | decide +kernel | k_is)
    (case allN => first | decide +kernel | k_is)
    (case sNoBookBoardError => first | rfl | k_is)
    (case acopied => k_is)
    (case lcopied => k_is)
    (case ccopied => k_is)
    (case kcopied => k_is)
    (case a_law_pool => k_is)
    (case l_law_pool => k_is)
    (case c_law_pool => k_is)
    (case k_law_pool => k_is)
    (case a_law_draw => k_is)
    (case l_law_draw => k_is)
    (case c_law_draw => k_is)
    (case k_law_draw => k_is)
    (case a_law_number => k_is)
    (case l_law_number => k_is)
    (case c_law_number => k_is)
    (case k_law_number => k_is)
    (case a_law_same => k_is)
    (case l_law_same => k_is)
    (case c_law_same => k_is)
    (case k_law_same => k_is)
    (case a_law_kinds => k_is)
    (case l_law_kinds => k_is)
    (case c_law_kinds => k_is)
    (case k_law_kinds => k_is)
    (case a_law_made => k_is)
    (case l_law_made => k_is)
    (case c_law_made => k_is)
    (case k_law_made => k_is)
    (case a_law_thing => k_is)
    (case l_law_thing => k_is)
    (case c_law_thing => k_is)
    (case k_law_thing => k_is)
    (case a_law_foreign => k_is)
    (case l_law_foreign => k_is)
    (case c_law_foreign => k_is)
    (case k_law_foreign => k_is)
    (case alaw => k_is)
    (case llaw => k_is)
    (case claw => k_is)
    (case klaw => k_is)
    (case y_int => k_is)
    (case y_len => k_is)
    (case y_list => k_is)
    (case y_tuple => k_is)
    (case y_range => k_is)
    (case y_isinstance => k_is)
    (case y_bool => k_is)
    (case y_str => k_is)
    (case y_dict => k_is)
    (case y_ValueError => k_is)
    (case y_KeyError => k_is)
    (case y_IndexError => k_is)
    (case y_TypeError => k_is)
    (case y_ZeroDivisionError => k_is)
    (case y_AttributeError => k_is)
