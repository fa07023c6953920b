import PyProof.Rows.All
import Wide.All
import OpenK.AllK
import Wide.FinOn
import HandS.ForMost
import HandS.Wide
import HandS.IsInst
import HandS.Codes
import HandS.Evl
import HandS.Walk
import HandS.Zip
import HandS.Star
import HandS.More
import HandS.Flow
import HandS.RevRange
import HandS.OwnEq
import HandS.NamedTupGet
import HandS.Small
import HandS.ExcOwn
import HandS.WordsExc
import HandS.TupAny
import HandS.TryMany
import HandS.Deep
import HandS.ExcIs
import HandS.Rev
import HandS.TupLe
import HandS.ExcInit
import HandS.ExcField
import HandS.FStr
import HandS.Text
import HandS.RaiseMore
import HandS.ExcValue
import HandS.Defaults
import HandS.MakeKwOnly
import HandS.CallSlots
import KE.KExcIs
import KE.GoesZip
import KE.GoesMore
import KE.KDictZip
import PySem.Challenge.RW_sharedboard_k09_whole_calls_set_in
set_option Elab.async false
set_option linter.all false
set_option maxRecDepth 100000
set_option maxHeartbeats 4000000
namespace My
open PySem PySem.Spec PyProof.Rows L2 Evl
open C8 (Cal pe_c)
def topS (i : Nat) : Stmt := PySem.Challenge.pw_sharedboard_k09_whole_calls_set_in.main.body.getD i (.Pass ⟨0, 0, 0, 0⟩)
abbrev s_law_pool : Stmt := topS 50
theorem sc_law_pool : FnScope ["script", "seed", "cell"] ["script"] (defScope s_law_pool) := ⟨rfl, rfl, rfl, by decide +kernel, rfl, by decide +kernel, by decide +kernel⟩
abbrev s_law_draw : Stmt := topS 51
theorem sc_law_draw : FnScope ["pool", "many", "number", "cell", "digit"] ["pool", "many"] (defScope s_law_draw) := ⟨rfl, rfl, rfl, by decide +kernel, rfl, by decide +kernel, by decide +kernel⟩
/-! ### the pool of a law's draws -/
/-- all but the object at p is as it was -/
def Oth (p : Addr) (H H' : Hp) : Prop := ∀ a o, a ≠ p → H a = some o → H' a = some o
theorem Oth.refl (p : Addr) (H : Hp) : Oth p H H := fun _ _ _ h => h
theorem Oth.trans {p : Addr} {H H1 H2 : Hp} (a : Oth p H H1) (b : Oth p H1 H2) : Oth p H H2 := fun c o n h => b c o n (a c o n h)
theorem Oth.of {p : Addr} {H H1 : Hp} (a : Ex H H1) : Oth p H H1 := fun c o _ h => a c o h
theorem Oth.upd {p : Addr} {H : Hp} {o : HO} : Oth p H (upd H p o) := fun c u n h => by rw [upd_ne n]; exact h
structure PoolAt (H : Hp) (p q : Addr) (i b t s : Int) (cs : List Int) : Prop where
  hp : H p = some (.lst [.ref q, .int i, .int b, .int t, .int s])
  hq : H q = some (.lst (cs.map V.int))
  short : cs.length ≤ 63
  i0 : 0 ≤ i
  b0 : 0 ≤ b
def Pool (H : Hp) (p q : Addr) : Prop := ∃ i b t s cs, PoolAt H p q i b t s cs
theorem PoolAt.ne {H : Hp} {p q : Addr} {i b t s : Int} {cs : List Int} (x : PoolAt H p q i b t s cs) : q ≠ p := ne_of x.hq x.hp fun e => by
  have e1 := HO.lst.inj e
  cases cs with
  | nil => cases e1
  | cons c r => cases e1
theorem PoolAt.ex {H H' : Hp} {p q : Addr} {i b t s : Int} {cs : List Int} (x : PoolAt H p q i b t s cs) (e : Ex H H') : PoolAt H' p q i b t s cs :=
  ⟨e _ _ x.hp, e _ _ x.hq, x.short, x.i0, x.b0⟩
theorem Pool.ex {H H' : Hp} {p q : Addr} (x : Pool H p q) (e : Ex H H') : Pool H' p q := by
  obtain ⟨i, b, t, s, cs, x⟩ := x
  exact ⟨i, b, t, s, cs, x.ex e⟩
theorem Pool.ne {H : Hp} {p q : Addr} (x : Pool H p q) : q ≠ p := by
  obtain ⟨i, b, t, s, cs, x⟩ := x
  exact x.ne
/-- a list of ints is not the pool -/
theorem Pool.neI {H : Hp} {p q a : Addr} {ns : List Int} (x : Pool H p q) (h : H a = some (.lst (ns.map V.int))) : a ≠ p := by
  obtain ⟨i, b, t, s, cs, x⟩ := x
  refine ne_of h x.hp fun e => ?_
  have e1 := HO.lst.inj e
  cases ns with
  | nil => cases e1
  | cons c r => cases e1
/-- an object that is neither may change -/
theorem Pool.upd {H : Hp} {p q a : Addr} {o : HO} (x : Pool H p q) (h1 : a ≠ p) (h2 : a ≠ q) : Pool (upd H a o) p q := by
  obtain ⟨i, b, t, s, cs, x⟩ := x
  exact ⟨i, b, t, s, cs, by rw [upd_ne h1.symm]; exact x.hp, by rw [upd_ne h2.symm]; exact x.hq, x.short, x.i0, x.b0⟩
theorem Pool.isP {H : Hp} {p q : Addr} (x : Pool H p q) : ∃ o, H p = some o := by
  obtain ⟨i, b, t, s, cs, x⟩ := x
  exact ⟨_, x.hp⟩
theorem Pool.isQ {H : Hp} {p q : Addr} (x : Pool H p q) : ∃ o, H q = some o := by
  obtain ⟨i, b, t, s, cs, x⟩ := x
  exact ⟨_, x.hq⟩
theorem PoolAt.put {H H' : Hp} {p q : Addr} {i b t s i' b' t' s' : Int} {cs : List Int} (x : PoolAt H p q i b t s cs) (e : Ex H H') (hi : 0 ≤ i') (hb : 0 ≤ b') :
    PoolAt (upd H' p (.lst [.ref q, .int i', .int b', .int t', .int s'])) p q i' b' t' s' cs :=
  ⟨upd_same, by rw [upd_ne x.ne]; exact e _ _ x.hq, x.short, hi, hb⟩
def spPool (K : PySem.W.Frag) : Sp := fun vs H Q _ => ∃ (a : Addr) (ns : List Int), vs = [.ref a] ∧ SqL K H a (ns.map V.int) ∧ ∀ p q H', H p = none → H q = none → Ex H H' → Pool H' p q → Q (.ref p) H'
def spDraw : Sp := fun vs H Q _ => ∃ (p q : Addr) (m : Int), vs = [.ref p, .int m] ∧ 0 < m ∧ m.natAbs < 2 ^ 200 ∧ Pool H p q ∧ ∀ r H', 0 ≤ r → r < m → Oth p H H' → Pool H' p q → Q (.int r) H'
theorem cut63 (xs : List V) : cutV xs none (some 63) = xs.take 63 := by
  unfold cutV
  rw [HT.sIx_none, show HT.sIx xs.length xs.length (some 63) = min 63 xs.length from HT.sIx_nat xs.length xs.length 63]
  show (xs.drop 0).take (min 63 xs.length - 0) = _
  rw [List.drop_zero, Nat.sub_zero, List.take_eq_take_iff]
  omega
section
variable {P : Program} {w : World} {K : PySem.W.Frag} {mg : Str → Option Value} {base : Heap}
theorem ok_pool {f : Addr} {fd : FuncData} {k : Nat} (F : Fun K "_law_pool" "_law_pool" s_law_pool f fd) (z_int : mg "int" = none) (z_list : mg "list" = none) : FnOk P w K mg base CX0 (k + 1) f fd ["script"] (spPool K) := by
  have sc := sc_law_pool
  refine F.ok sc (fun vs H Q E h => ?_) (fun cdv A outer s H vs Q E hr h => ?_)
  · obtain ⟨a, ns, rfl, _⟩ := h
    rfl
  · obtain ⟨a, ns, rfl, hS, q⟩ := h
    refine ⟨_, (pss_cons (ps_set (i := 1) sc.nd rfl (by first | exact Or.inl rfl | exact Or.inr rfl) pe_int)
      (pss_cons (ps_for PassesOwn.never rfl (pi_list (pe_slice sl_list (pv 0) po_none (po_some pe_int))) (pg_name (i := 2) sc.nd rfl (by first | exact Or.inl rfl | exact Or.inr rfl))
      (pss_one (ps_set (i := 1) sc.nd rfl (by first | exact Or.inl rfl | exact Or.inr rfl) (pe_op op_modN (pe_callTy call_int1 (by rfl) z_int (by decide +kernel) (pa_cons (pe_op op_add (pe_op op_add (pe_op op_mul (pv 1) pe_int) (pv 2)) pe_int) pa_nil)) pe_int))))
      (pss_one (ps_ret (pe_lst (pa_cons (pe_callTy call_list_of (by rfl) z_list (by decide +kernel) (pa_cons (pe_slice sl_list (pv 0) po_none (po_some pe_int)) pa_nil)) (pa_cons pe_int (pa_cons pe_int (pa_cons pe_int (pa_cons (pv 1) pa_nil)))))))))), ?_⟩
    -- for cell in script[:63]
    refine ⟨.ref a, rfl, 63, rfl, a, ns.map V.int, rfl, hS, fun c nc => ?_⟩
    rw [cut63, ← List.map_take]
    refine ⟨c, rfl, ⟨_, .inl (.inl upd_same)⟩, for_list (xs := (ns.take 63).map V.int)
      (fun i σ H' => ∃ (n : Int) (y : Option V), σ = [some (.ref a), some (.int n), y] ∧ Ex H H' ∧ H' c = some (.lst ((ns.take 63).map V.int))) ⟨17, none, rfl, Ex.new nc, upd_same⟩ (fun i σ H' hi p => ?_) (fun i x σ H' hi p => ?_) (fun σ H' p => ?_)⟩
    · obtain ⟨n, y, rfl, e, hc⟩ := p
      exact .inl (.inl hc)
    · obtain ⟨n, y, rfl, e, hc⟩ := p
      rw [List.getElem?_map, Option.map_eq_some_iff] at hi
      obtain ⟨z, _, rfl⟩ := hi
      refine ⟨.int n, rfl, n, 43, rfl, rfl, .inr ⟨by decide, by decide⟩, .int z, rfl, n * 43, z, rfl, rfl, n * 43 + z, 3, rfl, rfl, .inl ⟨_, rfl, _, 2147483629, rfl, rfl, show (2147483629 : Int) ≠ 0 by decide, ?_⟩⟩
      exact ⟨_, some (.int z), rfl, e, hc⟩
    · obtain ⟨n, y, rfl, e, hc⟩ := p
      refine ⟨.ref a, rfl, 63, rfl, a, ns.map V.int, rfl, ex_l e hS, fun c2 nc2 => ?_⟩
      rw [cut63, ← List.map_take]
      refine ⟨c2, _, rfl, .inl (.inl (.inl upd_same)), fun l nl => ?_⟩
      refine ⟨.int n, rfl, Nat.le_of_ble_eq_true rfl, fun p np => ?_⟩
      have e2 := (e.trans (Ex.new nc2)).trans (Ex.new (o := .lst ((ns.take 63).map V.int)) nl)
      have e3 := e2.trans (Ex.new (o := .lst [.ref l, .int 0, .int 0, .int 0, .int n]) np)
      refine q p l _ (fresh_back e2 np) (fresh_back (e.trans (Ex.new nc2)) nl) e3 ⟨0, 0, 0, n, ns.take 63, upd_same, ?_, ?_, by decide, by decide⟩
      · rw [upd_ne (ne_of_none upd_same np)]
        exact upd_same
      · rw [List.length_take]; omega

theorem ev_ix0 {σ : L2.St} {H : Hp} {p : Addr} {xs : List V} {j : Nat} {v : V} (hs : σ[0]? = some (some (.ref p))) (h : H p = some (.lst xs)) (hx : xs[j]? = some v) : Ev (tOp (rIxL K) (tVar 0) (tC (.int (j : Int)))) σ H v :=
  ev_op (ev_var hs) ev_c (rv_ixL (sq_of h) (atI_nat hx))
theorem ev_int1 {σ : L2.St} {H : Hp} {te : TE} {n : Int} (h : Ev te σ H (.int n)) : Ev (tCB (fun xs H Q => (∃ i, xs = [.int i] ∧ Q (.int i) H) ∨ ∃ k, xs = [.bl k] ∧ Q (.int (if k then 1 else 0)) H) (tCons te tNil)) σ H (.int n) :=
  ev_cb (ea_cons h ea_nil) fun H1 _ _ q => .inl ⟨n, rfl, q H1 (Ex.refl H1)⟩
theorem fmod_in {a m : Int} (h : 0 < m) : 0 ≤ a.fmod m ∧ a.fmod m < m := by
  rw [Int.fmod_eq_emod_of_nonneg a (by omega)]
  exact ⟨Int.emod_nonneg a (by omega), Int.emod_lt_of_pos a h⟩
theorem ok_draw {f : Addr} {fd : FuncData} {k : Nat} (F : Fun K "_law_draw" "_law_draw" s_law_draw f fd) (z_int : mg "int" = none) (z_len : mg "len" = none) : FnOk P w K mg base CX0 (k + 1) f fd ["pool", "many"] spDraw := by
  have sc := sc_law_draw
  refine F.ok sc (fun vs H Q E h => ?_) (fun cdv A outer s H vs Q E hr h => ?_)
  · obtain ⟨p, q0, m, rfl, _⟩ := h
    rfl
  · obtain ⟨p, q0, m, rfl, hm, hb, ⟨i, b, t, s, cs, x⟩, q⟩ := h
    refine ⟨_, (pss_cons (ps_asg (pe_op op_add (pe_ix ix_list (pv 0) pe_int (fun _ _ => rfl)) pe_int) (pg_sub (pv 0) pe_int set_list))
      (Evl.pss_cut (ps_if (PW.pt (pw_and (pt_cmpR op_eq (pe_ix ix_list (pv 0) pe_int (fun _ _ => rfl)) pe_int (nomark _)) (pw_and1 (pt_cmpR op_lt (pe_ix ix_list (pv 0) pe_int (fun _ _ => rfl)) (pe_callB call_len_seq (by rfl) z_len (by decide +kernel) (pa_cons (pe_ix ix_list (pv 0) pe_int (fun _ _ => rfl)) pa_nil)) (nomark _)))))
      (pss_cons (ps_set (i := 3) sc.nd rfl (by first | exact Or.inl rfl | exact Or.inr rfl) (pe_ix ix_list (pe_ix ix_list (pv 0) pe_int (fun _ _ => rfl)) (pe_ix ix_list (pv 0) pe_int (fun _ _ => rfl)) (fun _ _ => rfl)))
      (pss_cons (ps_asg (pe_op op_add (pe_ix ix_list (pv 0) pe_int (fun _ _ => rfl)) pe_int) (pg_sub (pv 0) pe_int set_list))
      (pss_one (ps_if (pt_cmpR op_ge (pv 3) (pe_op op_pow pe_int pe_int) (nomark _))
      (pss_one (ps_asg (pv 3) (pg_sub (pv 0) pe_int set_list)))
      (pss_one (ps_asg (pe_op op_modN (pe_callTy call_int1 (by rfl) z_int (by decide +kernel) (pa_cons (pe_op op_add (pe_op op_add (pe_op op_mul (pe_ix ix_list (pv 0) pe_int (fun _ _ => rfl)) pe_int) (pv 3)) pe_int) pa_nil)) pe_int) (pg_sub (pv 0) pe_int set_list)))))))
      pss_nil)
      (pss_cons (ps_if (pt_cmpR op_gt (pe_ix ix_list (pv 0) pe_int (fun _ _ => rfl)) pe_int (nomark _))
      (pss_cons (ps_set (i := 4) sc.nd rfl (by first | exact Or.inl rfl | exact Or.inr rfl) (pe_op op_modN (pe_callTy call_int1 (by rfl) z_int (by decide +kernel) (pa_cons (pe_ix ix_list (pv 0) pe_int (fun _ _ => rfl)) pa_nil)) (pv 1)))
      (pss_cons (ps_asg (pe_op op_fdivW (pe_ix ix_list (pv 0) pe_int (fun _ _ => rfl)) (pv 1)) (pg_sub (pv 0) pe_int set_list))
      (pss_one (ps_ret (pv 4)))))
      pss_nil)
      (pss_cons (ps_set (i := 2) sc.nd rfl (by first | exact Or.inl rfl | exact Or.inr rfl) (pe_op op_modN (pe_callTy call_int1 (by rfl) z_int (by decide +kernel) (pa_cons (pe_op op_add (pe_op op_add (pe_op op_mul (pe_ix ix_list (pv 0) pe_int (fun _ _ => rfl)) pe_int) (pe_op op_mul (pe_ix ix_list (pv 0) pe_int (fun _ _ => rfl)) pe_int)) pe_int) pa_nil)) pe_int))
      (pss_cons (ps_set (i := 2) sc.nd rfl (by first | exact Or.inl rfl | exact Or.inr rfl) (pe_op op_modN (pe_callTy call_int1 (by rfl) z_int (by decide +kernel) (pa_cons (pe_op op_mul (pv 2) (pe_op op_add (pe_op op_fdivN (pv 2) pe_int) pe_int)) pa_nil)) pe_int))
      (pss_cons (ps_set (i := 2) sc.nd rfl (by first | exact Or.inl rfl | exact Or.inr rfl) (pe_op op_modN (pe_callTy call_int1 (by rfl) z_int (by decide +kernel) (pa_cons (pe_op op_mul (pv 2) (pe_op op_add (pe_op op_fdivN (pv 2) pe_int) pe_int)) pa_nil)) pe_int))
      (pss_one (ps_ret (pe_op op_modN (pe_callTy call_int1 (by rfl) z_int (by decide +kernel) (pa_cons (pe_op op_fdivN (pv 2) pe_int) pa_nil)) (pv 1)))))))))), ?_⟩
    have hm0 : m ≠ 0 := by omega
    -- pool[3] = pool[3] + 1
    refine q_setL (j := 3) x.hp (ev_op (ev_ix0 (j := 3) rfl x.hp rfl) ev_c rv_I0) (ev_var rfl) ev_c (by show _ < 5; decide) fun H1 e1 => ?_
    have x2 : PoolAt (upd H1 p (.lst [.ref q0, .int i, .int b, .int (t + 1), .int s])) p q0 i b (t + 1) s cs := x.put e1 x.i0 x.b0
    have o2 : Oth p H (upd H1 p (.lst [.ref q0, .int i, .int b, .int (t + 1), .int s])) := (Oth.of e1).trans Oth.upd
    -- if pool[2] == 0 and ..
    refine ⟨fun σ' H' => ∃ (c : Option V) (i' b' t' s' : Int), σ' = [some (.ref p), some (.int m), none, c, none] ∧ Oth p H H' ∧ PoolAt H' p q0 i' b' t' s' cs, ?_, ?_⟩
    · refine s_when (et_and (et_test (ev_op (ev_ix0 (j := 2) rfl x2.hp rfl) ev_c (rv_eq rfl))) fun hb => et_test (ev_op (ev_ix0 (j := 1) rfl x2.hp rfl) (ev_len (ev_ix0 (j := 0) rfl x2.hp rfl) (sq_of x2.hq)) rv_I0)) (fun hb H3 e3 => ?_) (fun hb H3 e3 => ⟨none, i, b, t + 1, s, rfl, o2.trans (.of e3), x2.ex e3⟩)
      have x3 := x2.ex e3
      have o3 : Oth p H H3 := o2.trans (.of e3)
      have hi : i < ((cs.map V.int).length : Int) := of_decide_eq_true (Bool.and_eq_true _ _ ▸ hb).2
      rw [List.length_map] at hi
      have hi2 : i.toNat < cs.length := by have := x.i0; omega
      refine q_asg (v := .int cs[i.toNat]) (ev_op (ev_ix0 (j := 0) rfl x3.hp rfl) (ev_ix0 (j := 1) rfl x3.hp rfl) (rv_ixL (sq_of x3.hq) (at_of (j := i.toNat) (by have := x.i0; omega) (by rw [List.getElem?_map, List.getElem?_eq_getElem hi2]; rfl)))) fun H4 e4 => ?_
      have x4 := x3.ex e4
      refine q_setL (j := 1) x4.hp (ev_op (ev_ix0 (j := 1) rfl x4.hp rfl) ev_c rv_I0) (ev_var rfl) ev_c (by show _ < 5; decide) fun H5 e5 => ?_
      have x5 : PoolAt (upd H5 p (.lst [.ref q0, .int (i + 1), .int b, .int (t + 1), .int s])) p q0 (i + 1) b (t + 1) s cs := x4.put e5 (by have := x.i0; omega) x.b0
      have o5 : Oth p H (upd H5 p (.lst [.ref q0, .int (i + 1), .int b, .int (t + 1), .int s])) := ((o3.trans (.of e4)).trans (.of e5)).trans Oth.upd
      refine s_if (et_test (ev_op (ev_var rfl) (ev_op ev_c ev_c (rv_I ⟨by decide, by decide, by decide⟩)) rv_I0)) (fun hc H6 e6 => ?_) (fun hc H6 e6 => ?_)
      · have x6 := x5.ex e6
        have hz : (0 : Int) ≤ cs[i.toNat] := Int.le_trans (by decide) (of_decide_eq_true hc)
        refine s_setL (j := 2) x6.hp (ev_var rfl) (ev_var rfl) ev_c (by show _ < 5; decide) fun H7 e7 => ?_
        exact ⟨_, i + 1, cs[i.toNat], t + 1, s, rfl, ((o5.trans (.of e6)).trans (.of e7)).trans Oth.upd, x6.put e7 x6.i0 hz⟩
      · have x6 := x5.ex e6
        refine s_setL (j := 4) x6.hp (ev_op (ev_int1 (ev_op (ev_op (ev_op (ev_ix0 (j := 4) rfl x6.hp rfl) ev_c (rv_I (.inr ⟨by decide, by decide⟩))) (ev_var rfl) rv_I0) ev_c rv_I0)) ev_c (rv_I (by decide +revert))) (ev_var rfl) ev_c (by show _ < 5; decide) fun H7 e7 => ?_
        exact ⟨_, i + 1, b, t + 1, _, rfl, ((o5.trans (.of e6)).trans (.of e7)).trans Oth.upd, x6.put e7 x6.i0 x6.b0⟩
    · rintro σ' H' ⟨c, i, b, t, s, rfl, o, x⟩
      refine q_when (et_test (ev_op (ev_ix0 (j := 2) rfl x.hp rfl) ev_c rv_I0)) (fun hc H2 e2 => ?_) (fun hc H2 e2 => ?_)
      · have x2 := x.ex e2
        refine q_asg (ev_op (ev_int1 (ev_ix0 (j := 2) rfl x2.hp rfl)) (ev_var rfl) (rv_I hm0)) fun H3 e3 => ?_
        have x3 := x2.ex e3
        refine q_setL (j := 2) x3.hp (ev_op (ev_ix0 (j := 2) rfl x3.hp rfl) (ev_var rfl) (rv_I (wide_div hm hb (by decide) (by decide)))) (ev_var rfl) ev_c (by show _ < 5; decide) fun H4 e4 => ?_
        refine s_ret (ev_var rfl) fun H5 e5 => ?_
        have x4 : PoolAt (upd H4 p (.lst [.ref q0, .int i, .int (b / m), .int t, .int s])) p q0 i (b / m) t s cs := x3.put e4 x3.i0 (Int.ediv_nonneg x3.b0 (by omega))
        exact q _ _ (fmod_in hm).1 (fmod_in hm).2 ((((o.trans (.of e2)).trans (.of e3)).trans (.of e4)).trans (Oth.upd.trans (.of e5))) ⟨_, _, _, _, _, x4.ex e5⟩
      · have x2 := x.ex e2
        refine q_asg (ev_op (ev_int1 (ev_op (ev_op (ev_op (ev_ix0 (j := 4) rfl x2.hp rfl) ev_c (rv_I (.inr ⟨by decide, by decide⟩))) (ev_op (ev_ix0 (j := 3) rfl x2.hp rfl) ev_c (rv_I (.inr ⟨by decide, by decide⟩))) rv_I0) ev_c rv_I0)) ev_c (rv_I (by decide +revert))) fun H3 e3 => ?_
        have n1 := @fmod_in (s * 69621 + t * 130363 + 12289) 2147483647 (by decide)
        generalize (s * 69621 + t * 130363 + 12289).fmod 2147483647 = n at n1 ⊢
        refine q_asg (ev_op (ev_int1 (ev_op (ev_var rfl) (ev_op (ev_op (ev_var rfl) ev_c (rv_I ⟨by decide, by decide⟩)) ev_c rv_I0) (rv_I (.inl ⟨by omega, by omega⟩)))) ev_c (rv_I (by decide +revert))) fun H4 e4 => ?_
        have n2 := @fmod_in (n * (n.fdiv 1013 + 48271)) 2147483647 (by decide)
        generalize (n * (n.fdiv 1013 + 48271)).fmod 2147483647 = n' at n2 ⊢
        refine q_asg (ev_op (ev_int1 (ev_op (ev_var rfl) (ev_op (ev_op (ev_var rfl) ev_c (rv_I ⟨by decide, by decide⟩)) ev_c rv_I0) (rv_I (.inl ⟨by omega, by omega⟩)))) ev_c (rv_I (by decide +revert))) fun H5 e5 => ?_
        refine s_ret (ev_op (ev_int1 (ev_op (ev_var rfl) ev_c (rv_I ⟨by decide, by decide⟩))) (ev_var rfl) (rv_I hm0)) fun H6 e6 => ?_
        have e := (((e2.trans e3).trans e4).trans e5).trans e6
        exact q _ _ (fmod_in hm).1 (fmod_in hm).2 (o.trans (.of e)) ⟨_, _, _, _, _, x.ex e⟩
end
/-! ### data: what may stand in lists and tuples -/
mutual
/-- equal, kind for kind (actual, due) -/
def sm : PyData → PyData → Bool
  | .none, .none => true
  | .bool a, .bool b => decide (a = b)
  | .int a, .int b => decide (a = b)
  | .str a, .str b => decide (a = b)
  | .list xs, .list ys => smAll xs ys
  | .tuple xs, .tuple ys => smAll xs ys
  | _, _ => false
def smAll : List PyData → List PyData → Bool
  | [], [] => true
  | x :: xs, y :: ys => sm x y && smAll xs ys
  | _, _ => false
end
mutual
/-- at most n levels, no list longer than 10000, no dict -/
def fit : PyData → Nat → Bool
  | .list xs, n => match n with
    | 0 => false
    | m + 1 => decide (xs.length ≤ 10000) && fitAll xs m
  | .tuple xs, n => match n with
    | 0 => false
    | m + 1 => decide (xs.length ≤ 10000) && fitAll xs m
  | .dict _, _ => false
  | _, _ => true
def fitAll : List PyData → Nat → Bool
  | [], _ => true
  | x :: xs, n => fit x n && fitAll xs n
end
mutual
theorem sm_refl : ∀ (d : PyData) (n : Nat), fit d n = true → sm d d = true
  | .none, _, _ => by simp [sm]
  | .bool _, _, _ => by simp [sm]
  | .int _, _, _ => by simp [sm]
  | .str _, _, _ => by simp [sm]
  | .list xs, 0, h => by simp [fit] at h
  | .list xs, n + 1, h => by
    rw [fit, Bool.and_eq_true] at h
    rw [sm]
    exact smAll_refl xs n h.2
  | .tuple xs, 0, h => by simp [fit] at h
  | .tuple xs, n + 1, h => by
    rw [fit, Bool.and_eq_true] at h
    rw [sm]
    exact smAll_refl xs n h.2
  | .dict _, _, h => by simp [fit] at h
theorem smAll_refl : ∀ (xs : List PyData) (n : Nat), fitAll xs n = true → smAll xs xs = true
  | [], _, _ => by simp [smAll]
  | x :: xs, n, h => by
    rw [fitAll, Bool.and_eq_true] at h
    rw [smAll, sm_refl x n h.1, smAll_refl xs n h.2]
    rfl
end
mutual
theorem sm_eq : ∀ (d e : PyData), sm d e = true → d = e
  | .none, e, h => by cases e <;> simp_all [sm]
  | .bool _, e, h => by cases e <;> simp_all [sm]
  | .int _, e, h => by cases e <;> simp_all [sm]
  | .str _, e, h => by cases e <;> simp_all [sm]
  | .list xs, e, h => by
    cases e with
    | list ys => rw [sm] at h; rw [smAll_eq xs ys h]
    | _ => simp [sm] at h
  | .tuple xs, e, h => by
    cases e with
    | tuple ys => rw [sm] at h; rw [smAll_eq xs ys h]
    | _ => simp [sm] at h
  | .dict _, e, h => by cases e <;> simp [sm] at h
theorem smAll_eq : ∀ (xs ys : List PyData), smAll xs ys = true → xs = ys
  | [], ys, h => by cases ys <;> simp_all [smAll]
  | x :: xs, ys, h => by
    cases ys with
    | nil => simp [smAll] at h
    | cons y ys =>
      rw [smAll, Bool.and_eq_true] at h
      rw [sm_eq x y h.1, smAll_eq xs ys h.2]
end
theorem smAll_len : ∀ {xs ys : List PyData}, smAll xs ys = true → xs.length = ys.length := fun h => by rw [smAll_eq _ _ h]
theorem fitAll_mem : ∀ {xs : List PyData} {n : Nat} {x : PyData}, fitAll xs n = true → x ∈ xs → fit x n = true
  | y :: r, n, x, h, m => by
    rw [fitAll, Bool.and_eq_true] at h
    rcases List.mem_cons.mp m with rfl | m
    · exact h.1
    · exact fitAll_mem h.2 m
/-- by places -/
theorem smAll_at : ∀ {xs ys : List PyData}, xs.length = ys.length → (smAll xs ys = true ↔ ∀ i, i < ys.length → sm (xs.getD i .none) (ys.getD i .none) = true)
  | [], [], _ => by simp [smAll]
  | x :: xs, y :: ys, h => by
    have ih := smAll_at (xs := xs) (ys := ys) (by simpa using h)
    rw [smAll, Bool.and_eq_true, ih]
    constructor
    · rintro ⟨h1, h2⟩ i hi
      cases i with
      | zero => exact h1
      | succ i => exact h2 i (by simpa using hi)
    · intro h
      exact ⟨h 0 (by simp), fun i hi => h (i + 1) (by simpa using hi)⟩
theorem given_zero {n : Nat} {f : Nat → Bool} {v : Nat → V} : (given n f v).length = 0 ↔ ∀ i, i < n → f i = false := by
  unfold given
  rw [List.length_map, List.length_eq_zero_iff, List.filter_eq_nil_iff]
  constructor
  · intro h i hi
    have := h i (List.mem_range.mpr hi)
    simpa using this
  · intro h i hi
    rw [h i (List.mem_range.mp hi)]
    decide
theorem smAll_given {xs ys : List PyData} (h : xs.length = ys.length) (v : Nat → V) : decide (((given ys.length (fun i => !sm (xs.getD i .none) (ys.getD i .none)) v).length : Int) = 0) = smAll xs ys := by
  have h1 := given_zero (n := ys.length) (f := fun i => !sm (xs.getD i .none) (ys.getD i .none)) (v := v)
  have h2 := smAll_at h
  cases e : smAll xs ys with
  | true =>
    rw [decide_eq_true_eq]
    have := h1.mpr fun i hi => by
      show (!sm (xs.getD i .none) (ys.getD i .none)) = false
      rw [h2.mp e i hi]; rfl
    omega
  | false =>
    rw [decide_eq_false_iff_not]
    intro z
    have hz : (given ys.length (fun i => !sm (xs.getD i .none) (ys.getD i .none)) v).length = 0 := by omega
    have := h2.mpr fun i hi => by
      have := h1.mp hz i hi
      simpa using this
    rw [e] at this
    cases this
section
variable {K : PySem.W.Frag} {H H' : Hp}
mutual
theorem dp_ex (e : Ex H H') : ∀ (d : PyData) (v : V), Dp K H v d → Dp K H' v d
  | .none, _, h => by cases h; exact .non
  | .bool _, _, h => by cases h; exact .bl _
  | .int _, _, h => by cases h; exact .int _
  | .str _, _, h => by cases h; exact .str _
  | .list ds, _, h => by
    cases h with
    | lst s a => exact .lst (ex_l e s) (dpa_ex e ds _ a)
  | .tuple ds, _, h => by
    cases h with
    | tup s a => exact .tup (ex_t e s) (dpa_ex e ds _ a)
  | .dict _, _, h => by cases h
theorem dpa_ex (e : Ex H H') : ∀ (ds : List PyData) (vs : List V), DpAll K H vs ds → DpAll K H' vs ds
  | [], _, h => by cases h; exact .nil
  | d :: ds, _, h => by
    cases h with
    | cons a b => exact .cons (dp_ex e d _ a) (dpa_ex e ds _ b)
end
theorem dpa_len : ∀ {vs : List V} {ds : List PyData}, DpAll K H vs ds → vs.length = ds.length
  | _, _, .nil => rfl
  | _, _, .cons _ b => by rw [List.length_cons, List.length_cons, dpa_len b]
theorem dpa_at : ∀ {vs : List V} {ds : List PyData} {i : Nat}, DpAll K H vs ds → i < ds.length → ∃ v, vs[i]? = some v ∧ Dp K H v (ds.getD i .none)
  | _, _, i, .nil, h => by simp at h
  | _, _, 0, .cons a _, _ => ⟨_, rfl, a⟩
  | _, _, i + 1, .cons _ b, h => by
    obtain ⟨v, h1, h2⟩ := dpa_at (i := i) b (by simpa using h)
    exact ⟨v, h1, h2⟩
theorem dpa_ints : ∀ ns : List Int, DpAll K H (ns.map V.int) (ns.map PyData.int)
  | [] => .nil
  | n :: r => .cons (.int n) (dpa_ints r)
theorem fit_ints : ∀ (ns : List Int) (n : Nat), fitAll (ns.map PyData.int) n = true
  | [], n => by simp [fitAll]
  | z :: r, n => by
    rw [List.map_cons, fitAll, fit_ints r n]
    simp [fit]
def tyn : PyData → String
  | .none => "NoneType"
  | .bool _ => "bool"
  | .int _ => "int"
  | .str _ => "str"
  | .list _ => "list"
  | .tuple _ => "tuple"
  | .dict _ => "dict"
theorem dp_ty {v : V} {d : PyData} (h : Dp K H v d) : TyX K H v (.type (tyn d)) := by
  cases h with
  | non => exact .base .non
  | bl b => exact .base (.bl b)
  | int i => exact .base (.int i)
  | str x => exact .base (.str x)
  | lst s _ =>
    rcases s with (s | ⟨o, s⟩) | ⟨o, its, n, l, c, _⟩
    · exact .base (.lst s)
    · exact .base (.frz s)
    · exact .kList l c
  | tup s _ =>
    rcases s with (s | ⟨o, s⟩) | ⟨o, its, n, l, c, _⟩
    · exact .base (.tup s)
    · exact .fTuple s
    · exact .kTuple l c
/-- isinstance(d, c), c one of bool, int, str, list, tuple -/
def isaS (t c : String) : Bool := (kitB t c).getD false
def isa (d : PyData) (c : String) : Bool := isaS (tyn d) c
theorem kit_all : ∀ t ∈ ["NoneType", "bool", "int", "str", "list", "tuple", "dict"], kitB t "bool" = some (isaS t "bool") ∧ kitB t "int" = some (isaS t "int") ∧ kitB t "str" = some (isaS t "str") ∧ kitB t "list" = some (isaS t "list") ∧ kitB t "tuple" = some (isaS t "tuple") := by
  decide +kernel
theorem tyn_mem (d : PyData) : tyn d ∈ ["NoneType", "bool", "int", "str", "list", "tuple", "dict"] := by
  cases d <;> simp [tyn]
theorem kitB_isa (d : PyData) : kitB (tyn d) "bool" = some (isa d "bool") ∧ kitB (tyn d) "int" = some (isa d "int") ∧ kitB (tyn d) "str" = some (isa d "str") ∧ kitB (tyn d) "list" = some (isa d "list") ∧ kitB (tyn d) "tuple" = some (isa d "tuple") :=
  kit_all _ (tyn_mem d)
theorem isa_bool : ∀ d : PyData, isa d "bool" = (match d with | .bool _ => true | _ => false)
  | .none => (by decide +kernel : isaS "NoneType" "bool" = false)
  | .bool _ => (by decide +kernel : isaS "bool" "bool" = true)
  | .int _ => (by decide +kernel : isaS "int" "bool" = false)
  | .str _ => (by decide +kernel : isaS "str" "bool" = false)
  | .list _ => (by decide +kernel : isaS "list" "bool" = false)
  | .tuple _ => (by decide +kernel : isaS "tuple" "bool" = false)
  | .dict _ => (by decide +kernel : isaS "dict" "bool" = false)
theorem isa_int : ∀ d : PyData, isa d "int" = (match d with | .int _ => true | .bool _ => true | _ => false)
  | .none => (by decide +kernel : isaS "NoneType" "int" = false)
  | .bool _ => (by decide +kernel : isaS "bool" "int" = true)
  | .int _ => (by decide +kernel : isaS "int" "int" = true)
  | .str _ => (by decide +kernel : isaS "str" "int" = false)
  | .list _ => (by decide +kernel : isaS "list" "int" = false)
  | .tuple _ => (by decide +kernel : isaS "tuple" "int" = false)
  | .dict _ => (by decide +kernel : isaS "dict" "int" = false)
theorem isa_str : ∀ d : PyData, isa d "str" = (match d with | .str _ => true | _ => false)
  | .none => (by decide +kernel : isaS "NoneType" "str" = false)
  | .bool _ => (by decide +kernel : isaS "bool" "str" = false)
  | .int _ => (by decide +kernel : isaS "int" "str" = false)
  | .str _ => (by decide +kernel : isaS "str" "str" = true)
  | .list _ => (by decide +kernel : isaS "list" "str" = false)
  | .tuple _ => (by decide +kernel : isaS "tuple" "str" = false)
  | .dict _ => (by decide +kernel : isaS "dict" "str" = false)
theorem isa_list : ∀ d : PyData, isa d "list" = (match d with | .list _ => true | _ => false)
  | .none => (by decide +kernel : isaS "NoneType" "list" = false)
  | .bool _ => (by decide +kernel : isaS "bool" "list" = false)
  | .int _ => (by decide +kernel : isaS "int" "list" = false)
  | .str _ => (by decide +kernel : isaS "str" "list" = false)
  | .list _ => (by decide +kernel : isaS "list" "list" = true)
  | .tuple _ => (by decide +kernel : isaS "tuple" "list" = false)
  | .dict _ => (by decide +kernel : isaS "dict" "list" = false)
theorem isa_tuple : ∀ d : PyData, isa d "tuple" = (match d with | .tuple _ => true | _ => false)
  | .none => (by decide +kernel : isaS "NoneType" "tuple" = false)
  | .bool _ => (by decide +kernel : isaS "bool" "tuple" = false)
  | .int _ => (by decide +kernel : isaS "int" "tuple" = false)
  | .str _ => (by decide +kernel : isaS "str" "tuple" = false)
  | .list _ => (by decide +kernel : isaS "list" "tuple" = false)
  | .tuple _ => (by decide +kernel : isaS "tuple" "tuple" = true)
  | .dict _ => (by decide +kernel : isaS "dict" "tuple" = false)
theorem ev_isi {σ : L2.St} {te : TE} {x : V} {d : PyData} {c : String} {b : Bool} (hd : Dp K H x d) (h : Ev te σ H x) (hk : kitB (tyn d) c = some b) : Ev (tCB (rIsi K) (tCons te (tCons (tC (.ty c)) tNil))) σ H (.bl b) :=
  ev_cb (ea_cons h (ea_cons ev_c ea_nil)) fun H1 e Q q => ⟨x, .ty c, _, _, b, rfl, .ty c, dp_ty (dp_ex e d x hd), kit_ty hk, q H1 (Ex.refl H1)⟩
/-- isinstance(x, (list, tuple)) -/
theorem ev_isiLT {σ : L2.St} {te : TE} {x : V} {d : PyData} (hd : Dp K H x d) (h : Ev te σ H x) : Ev (tCB (rIsiT K) (tCons te (tCons (tTup (tCons (tC (.ty "list")) (tCons (tC (.ty "tuple")) tNil))) tNil))) σ H (.bl (isa d "list" || isa d "tuple")) := fun H1 e Q q =>
  h H1 e _ fun H2 e2 => ⟨by decide, fun p hp => ⟨x, p, _, _, _, _, rfl, upd_same, .cons (.ty _) (.cons (.ty _) .nil), dp_ty (dp_ex ((e.trans e2).trans (Ex.new hp)) d x hd),
    kitAny_cons (kit_ty (kitB_isa d).2.2.2.1) (fun hb => kitAny_cons (r := isa d "list" || isa d "tuple") (kit_ty (kitB_isa d).2.2.2.2) (fun hc => by rw [hb, hc]; exact kitAny_nil) (fun hc => by rw [hc, Bool.or_true])) (fun hb => by rw [hb, Bool.true_or]),
    q _ (e2.trans (Ex.new hp))⟩⟩
theorem ev_isN {σ : L2.St} {te : TE} {x : V} (h : Ev te σ H x) : Ev (tOp (fun x y H Q => y = .non ∧ Q (.bl (decide (x = .non))) H) te (tC .non)) σ H (.bl (decide (x = .non))) :=
  ev_op h ev_c (rv_val fun _ _ _ q => ⟨rfl, q⟩)
/-- a list or a tuple -/
def Sq (K : PySem.W.Frag) (H : Hp) (a : Addr) (xs : List V) : Prop := SqL K H a xs ∨ SqT K H a xs
theorem sq_ex {a : Addr} {xs : List V} (e : Ex H H') (h : Sq K H a xs) : Sq K H' a xs := h.imp (ex_l e) (ex_t e)
theorem ev_lenS {σ : L2.St} {ta : TE} {p : Addr} {xs : List V} (ha : Ev ta σ H (.ref p)) (h : Sq K H p xs) : Ev (tCB (rLenS K) (tCons ta tNil)) σ H (.int (xs.length : Int)) := fun H1 e Q q =>
  ha H1 e _ fun H2 e2 => ⟨p, xs, rfl, sq_ex (e.trans e2) h, q H2 e2⟩
theorem rv_ixS {p : Addr} {xs : List V} {i : Int} {v : V} (h : Sq K H p xs) (ha : atI xs i = some v) : RV (rIx K) (.ref p) (.int i) H v := fun H1 e _ q => by
  rcases h with h | h
  · exact .inl ⟨p, xs, i, v, rfl, rfl, ex_l e h, ha, q H1 (Ex.refl H1)⟩
  · exact .inr (.inl ⟨p, xs, i, v, rfl, rfl, ex_t e h, ha, q H1 (Ex.refl H1)⟩)
end
abbrev s_law_same : Stmt := topS 60
theorem sc_law_same : FnScope ["actual", "due", "k"] ["actual", "due"] (defScope s_law_same) := ⟨rfl, rfl, rfl, by decide +kernel, rfl, by decide +kernel, by decide +kernel⟩
section
variable {P : Program} {w : World} {K : PySem.W.Frag} {mg : Str → Option Value} {base : Heap}
def spSame (K : PySem.W.Frag) (n : Nat) : Sp := fun vs H Q _ => ∃ (x y : V) (d e : PyData) (m : Nat), vs = [x, y] ∧ n = m + 1 ∧ Dp K H x d ∧ Dp K H y e ∧ fit d m = true ∧ fit e m = true ∧ ∀ H', Ex H H' → Q (.bl (sm d e)) H'
theorem scal_bool {H : Hp} {x y : V} {d e : PyData} (hx : Dp K H x d) (hy : Dp K H y e) (h1 : isa e "bool" = true) (h2 : isa d "bool" = true) : scal x y = true := by
  rw [isa_bool] at h1 h2
  cases hx <;> simp at h2
  cases hy <;> simp at h1
  rfl
theorem scal_int {H : Hp} {x y : V} {d e : PyData} (hx : Dp K H x d) (hy : Dp K H y e) (c1 : isa e "bool" = false) (c2 : isa d "bool" = false) (h1 : isa e "int" = true) (h2 : isa d "int" = true) : scal x y = true := by
  rw [isa_bool] at c1 c2
  rw [isa_int] at h1 h2
  cases hx <;> simp at h2 c2
  cases hy <;> simp at h1 c1
  rfl
theorem scal_str {H : Hp} {x y : V} {d e : PyData} (hx : Dp K H x d) (hy : Dp K H y e) (h1 : isa e "str" = true) (h2 : isa d "str" = true) : scal x y = true := by
  rw [isa_str] at h1 h2
  cases hx <;> simp at h2
  cases hy <;> simp at h1
  rfl
theorem ans_non {H : Hp} {x y : V} {d e : PyData} (hx : Dp K H x d) (hy : Dp K H y e) (h : y = .non) : decide (x = V.non) = sm d e := by
  subst h
  cases hy
  cases hx <;> simp [sm]
theorem ans_bool {H : Hp} {x y : V} {d e : PyData} (hx : Dp K H x d) (hy : Dp K H y e) (hn : decide (y = V.non) = false) (h : (isa e "bool" || isa d "bool") = true) : (isa e "bool" && (isa d "bool" && decide (x = y))) = sm d e := by
  rw [isa_bool, isa_bool] at h ⊢
  cases hy <;> simp at hn <;> cases hx <;> simp [sm] at h ⊢
theorem ans_int {H : Hp} {x y : V} {d e : PyData} (hx : Dp K H x d) (hy : Dp K H y e) (c1 : isa e "bool" = false) (c2 : isa d "bool" = false) (h : isa e "int" = true) : (isa d "int" && decide (x = y)) = sm d e := by
  rw [isa_bool] at c1 c2
  rw [isa_int] at h ⊢
  cases hy <;> simp at h c1 <;> cases hx <;> simp [sm] at c2 ⊢
theorem ans_str {H : Hp} {x y : V} {d e : PyData} (hx : Dp K H x d) (hy : Dp K H y e) (h : isa e "str" = true) : (isa d "str" && decide (x = y)) = sm d e := by
  rw [isa_str] at h ⊢
  cases hy <;> simp at h <;> cases hx <;> simp [sm]
theorem ans_kind {H : Hp} {x y : V} {d e : PyData} (hx : Dp K H x d) (hy : Dp K H y e) (hn : decide (y = V.non) = false) (c1 : isa e "bool" = false) (hi : isa e "int" = false) (hs : isa e "str" = false)
    (h : ((!decide (V.bl (isa e "list") = V.bl (isa d "list"))) || !(isa d "list" || isa d "tuple")) = true) : false = sm d e := by
  rw [isa_list, isa_list, isa_tuple] at h
  rw [isa_int] at hi
  rw [isa_str] at hs
  rw [isa_bool] at c1
  cases hy <;> simp at hn hi hs c1 <;> cases hx <;> simp [sm] at h ⊢
theorem fit_list {xs : List PyData} {n : Nat} (h : fit (.list xs) n = true) : ∃ m, n = m + 1 ∧ xs.length ≤ 10000 ∧ fitAll xs m = true := by
  cases n with
  | zero => simp [fit] at h
  | succ m =>
    rw [fit, Bool.and_eq_true] at h
    exact ⟨m, rfl, of_decide_eq_true h.1, h.2⟩
theorem fit_tuple {xs : List PyData} {n : Nat} (h : fit (.tuple xs) n = true) : ∃ m, n = m + 1 ∧ xs.length ≤ 10000 ∧ fitAll xs m = true := by
  cases n with
  | zero => simp [fit] at h
  | succ m =>
    rw [fit, Bool.and_eq_true] at h
    exact ⟨m, rfl, of_decide_eq_true h.1, h.2⟩
theorem fit_two {xs ys : List PyData} {n : Nat} (h1 : ∃ m, n = m + 1 ∧ xs.length ≤ 10000 ∧ fitAll xs m = true) (h2 : ∃ m, n = m + 1 ∧ ys.length ≤ 10000 ∧ fitAll ys m = true) :
    ∃ m, n = m + 1 ∧ xs.length ≤ 10000 ∧ ys.length ≤ 10000 ∧ fitAll xs m = true ∧ fitAll ys m = true := by
  obtain ⟨m, rfl, a, b⟩ := h1
  obtain ⟨m', e, c, d⟩ := h2
  have : m' = m := by omega
  subst this
  exact ⟨_, rfl, a, c, b, d⟩
/-- both sides hold items -/
theorem both_items {H : Hp} {x y : V} {d e : PyData} (hx : Dp K H x d) (hy : Dp K H y e) (h1 : isa d "list" = isa e "list") (h2 : (isa d "list" || isa d "tuple") = true) (hn : decide (y = .non) = false) (h4 : isa e "int" = false) (h5 : isa e "str" = false) :
    ∃ a xs ds b ys es, x = .ref a ∧ y = .ref b ∧ Sq K H a xs ∧ Sq K H b ys ∧ DpAll K H xs ds ∧ DpAll K H ys es ∧ sm d e = smAll ds es ∧ ∀ n, fit d n = true → fit e n = true → ∃ m, n = m + 1 ∧ ds.length ≤ 10000 ∧ es.length ≤ 10000 ∧ fitAll ds m = true ∧ fitAll es m = true := by
  rw [isa_list, isa_list] at h1
  rw [isa_list, isa_tuple] at h2
  rw [isa_int] at h4
  rw [isa_str] at h5
  cases hx with
  | lst s a =>
    cases hy with
    | lst s2 a2 => exact ⟨_, _, _, _, _, _, rfl, rfl, .inl s, .inl s2, a, a2, by rw [sm], fun n f g => fit_two (fit_list f) (fit_list g)⟩
    | non => cases hn
    | _ => cases h1
  | tup s a =>
    cases hy with
    | tup s2 a2 => exact ⟨_, _, _, _, _, _, rfl, rfl, .inr s, .inr s2, a, a2, by rw [sm], fun n f g => fit_two (fit_tuple f) (fit_tuple g)⟩
    | lst _ _ => cases h1
    | non => cases hn
    | bl => cases h4
    | int => cases h4
    | str => cases h5
  | _ => cases h2
theorem same_step {f : Addr} {fd : FuncData} {n : Nat} (F : Fun K "_law_same" "_law_same" s_law_same f fd) (z_len : mg "len" = none) (z_isinstance : mg "isinstance" = none) (z_bool : mg "bool" = none) (z_int : mg "int" = none) (z_str : mg "str" = none)
    (z_list : mg "list" = none) (z_tuple : mg "tuple" = none) (z_range : mg "range" = none) (C_law_same : Cal P w K mg base n "_law_same" (spSame K n) []) : FnOk P w K mg base CX0 (n + 1) f fd ["actual", "due"] (spSame K (n + 1)) := by
  have sc := sc_law_same
  refine F.ok sc (fun vs H Q E h => ?_) (fun cdv A outer s H vs Q E hr h => ?_)
  · obtain ⟨x, y, d, e, m, rfl, _⟩ := h
    rfl
  · obtain ⟨x, y, d, e, n', rfl, en, hx, hy, fx, fy, q⟩ := h
    obtain rfl : n' = n := by omega
    refine ⟨_, (pss_cons (ps_if (pt_cmpR op_isN (pv 1) pe_non (nomark _))
      (pss_one (ps_ret (pe_cmpR op_isN (pv 0) pe_non (nomark _))))
      pss_nil)
      (pss_cons (ps_if (PW.pt (pw_or (pt_val (pe_callB call_isi (by rfl) z_isinstance (by decide +kernel) (pa_cons (pv 1) (pa_cons (pe_bltn (v := .ty "bool") (by rfl) z_bool (by decide +kernel) rfl) pa_nil)))) (pw_or1 (pt_val (pe_callB call_isi (by rfl) z_isinstance (by decide +kernel) (pa_cons (pv 0) (pa_cons (pe_bltn (v := .ty "bool") (by rfl) z_bool (by decide +kernel) rfl) pa_nil)))))))
      (pss_one (ps_ret (pe_and (pe_callB call_isi (by rfl) z_isinstance (by decide +kernel) (pa_cons (pv 1) (pa_cons (pe_bltn (v := .ty "bool") (by rfl) z_bool (by decide +kernel) rfl) pa_nil))) (pe_and (pe_callB call_isi (by rfl) z_isinstance (by decide +kernel) (pa_cons (pv 0) (pa_cons (pe_bltn (v := .ty "bool") (by rfl) z_bool (by decide +kernel) rfl) pa_nil))) (pe_one (pe_cmpR op_eq (pv 0) (pv 1) (nomark _)))))))
      pss_nil)
      (pss_cons (ps_if (pt_val (pe_callB call_isi (by rfl) z_isinstance (by decide +kernel) (pa_cons (pv 1) (pa_cons (pe_bltn (v := .ty "int") (by rfl) z_int (by decide +kernel) rfl) pa_nil))))
      (pss_one (ps_ret (pe_and (pe_callB call_isi (by rfl) z_isinstance (by decide +kernel) (pa_cons (pv 0) (pa_cons (pe_bltn (v := .ty "int") (by rfl) z_int (by decide +kernel) rfl) pa_nil))) (pe_one (pe_cmpR op_eq (pv 0) (pv 1) (nomark _))))))
      pss_nil)
      (pss_cons (ps_if (pt_val (pe_callB call_isi (by rfl) z_isinstance (by decide +kernel) (pa_cons (pv 1) (pa_cons (pe_bltn (v := .ty "str") (by rfl) z_str (by decide +kernel) rfl) pa_nil))))
      (pss_one (ps_ret (pe_and (pe_callB call_isi (by rfl) z_isinstance (by decide +kernel) (pa_cons (pv 0) (pa_cons (pe_bltn (v := .ty "str") (by rfl) z_str (by decide +kernel) rfl) pa_nil))) (pe_one (pe_cmpR op_eq (pv 0) (pv 1) (nomark _))))))
      pss_nil)
      (pss_cons (ps_if (PW.pt (pw_or (pt_cmpR op_ne (pe_callB call_isi (by rfl) z_isinstance (by decide +kernel) (pa_cons (pv 1) (pa_cons (pe_bltn (v := .ty "list") (by rfl) z_list (by decide +kernel) rfl) pa_nil))) (pe_callB call_isi (by rfl) z_isinstance (by decide +kernel) (pa_cons (pv 0) (pa_cons (pe_bltn (v := .ty "list") (by rfl) z_list (by decide +kernel) rfl) pa_nil))) (nomark _)) (pw_or1 (pt_not (pt_val (pe_callB call_isiT (by rfl) z_isinstance (by decide +kernel) (pa_cons (pv 0) (pa_cons (pe_tup (pa_cons (pe_bltn (v := .ty "list") (by rfl) z_list (by decide +kernel) rfl) (pa_cons (pe_bltn (v := .ty "tuple") (by rfl) z_tuple (by decide +kernel) rfl) pa_nil))) pa_nil))))))))
      (pss_one (ps_ret pe_bl))
      pss_nil)
      (pss_cons (ps_if (pt_cmpR op_ne (pe_callB call_len_seq (by rfl) z_len (by decide +kernel) (pa_cons (pv 0) pa_nil)) (pe_callB call_len_seq (by rfl) z_len (by decide +kernel) (pa_cons (pv 1) pa_nil)) (nomark _))
      (pss_one (ps_ret pe_bl))
      pss_nil)
      (pss_one (ps_ret (pe_cmpR op_eq (pe_callB call_len_seq (by rfl) z_len (by decide +kernel) (pa_cons (pe_lc (own := [("k", 2)]) (by rfl) sc.nd (pi_range1 (by rfl) z_range (pa_cons (pe_callB call_len_seq (by rfl) z_len (by decide +kernel) (pa_cons (pv 1) pa_nil)) pa_nil)) (blkOk_by (own := [("k", 2)]) (N := ["actual", "due", "k"]) (sc := defScope s_law_same) (by decide +kernel)) (fun _ _ _ _ _ => (pg_name (i := 2) sc.nd rfl (by first | exact Or.inl rfl | exact Or.inr rfl))) (fun _ _ _ _ _ => (pts_one (pt_not (pt_val (pe_c C_law_same hr (by omega) (by rfl) (pa_cons (pe_ix (ix_seq : IxR _ (rIx K)) (pv 0) (pv 2) (fun _ _ => rfl)) (pa_cons (pe_ix (ix_seq : IxR _ (rIx K)) (pv 1) (pv 2) (fun _ _ => rfl)) pa_nil))))))) (fun _ _ _ _ _ => (pv 2))) pa_nil)) pe_int (nomark _)))))))))), ?_⟩
    have kd := kitB_isa d
    have ke := kitB_isa e
    have vx : ∀ H1, Ex H H1 → Dp K H1 x d := fun H1 a => dp_ex a d x hx
    have vy : ∀ H1, Ex H H1 → Dp K H1 y e := fun H1 a => dp_ex a e y hy
    -- if due is None
    refine q_when (et_test (ev_isN (ev_var rfl))) (fun hb H1 e1 => ?_) (fun hb H1 e1 => ?_)
    · refine s_ret (ev_isN (ev_var rfl)) fun H2 e2 => ?_
      have z := ans_non hx hy (of_decide_eq_true hb)
      rw [z]
      exact q H2 (e1.trans e2)
    -- if isinstance(due, bool) or isinstance(actual, bool)
    refine q_when (et_or (et_B (ev_isi (vy _ e1) (ev_var rfl) ke.1)) fun _ => et_B (ev_isi (vx _ e1) (ev_var rfl) kd.1)) (fun hc H2 e2 => ?_) (fun hc H2 e2 => ?_)
    · have e12 := e1.trans e2
      refine s_ret (ev_andV (ev_isi (vy _ e12) (ev_var rfl) ke.1) fun h1 => ev_andV (b := decide (x = y)) (ev_isi (vx _ e12) (ev_var rfl) kd.1) fun h2 => ev_op (ev_var rfl) (ev_var rfl) (rv_eq ?_)) fun H3 e3 => ?_
      · exact scal_bool hx hy h1 h2
      · have z := ans_bool hx hy hb hc
        rw [z]
        exact q H3 (e12.trans e3)
    have e12 := e1.trans e2
    obtain ⟨c1, c2⟩ := Bool.or_eq_false_iff.mp hc
    -- if isinstance(due, int)
    refine q_when (et_B (ev_isi (vy _ e12) (ev_var rfl) ke.2.1)) (fun hc H3 e3 => ?_) (fun hci H3 e3 => ?_)
    · have e13 := e12.trans e3
      refine s_ret (ev_andV (b := decide (x = y)) (ev_isi (vx _ e13) (ev_var rfl) kd.2.1) fun h2 => ev_op (ev_var rfl) (ev_var rfl) (rv_eq ?_)) fun H4 e4 => ?_
      · exact scal_int hx hy c1 c2 hc h2
      · have z := ans_int hx hy c1 c2 hc
        rw [z]
        exact q H4 (e13.trans e4)
    have e13 := e12.trans e3
    -- if isinstance(due, str)
    refine q_when (et_B (ev_isi (vy _ e13) (ev_var rfl) ke.2.2.1)) (fun hc H4 e4 => ?_) (fun hcs H4 e4 => ?_)
    · have e14 := e13.trans e4
      refine s_ret (ev_andV (b := decide (x = y)) (ev_isi (vx _ e14) (ev_var rfl) kd.2.2.1) fun h2 => ev_op (ev_var rfl) (ev_var rfl) (rv_eq ?_)) fun H5 e5 => ?_
      · exact scal_str hx hy hc h2
      · have z := ans_str hx hy hc
        rw [z]
        exact q H5 (e14.trans e5)
    have e14 := e13.trans e4
    -- if isinstance(due, list) != isinstance(actual, list) or not isinstance(actual, (list, tuple))
    refine q_when (et_or (et_test (ev_op (ev_isi (vy _ e14) (ev_var rfl) ke.2.2.2.1) (ev_isi (vx _ e14) (ev_var rfl) kd.2.2.2.1) (rv_ne rfl))) fun _ => et_not (et_B (ev_isiLT (vx _ e14) (ev_var rfl)))) (fun hc H5 e5 => ?_) (fun hc H5 e5 => ?_)
    · refine s_ret ev_c fun H6 e6 => ?_
      have z := ans_kind hx hy hb c1 hci hcs hc
      rw [z]
      exact q H6 ((e14.trans e5).trans e6)
    have e15 := e14.trans e5
    obtain ⟨c3, c4⟩ := Bool.or_eq_false_iff.mp hc
    have c5 : isa d "list" = isa e "list" := by
      have := of_decide_eq_true (by simpa using c3 : decide (V.bl (isa e "list") = V.bl (isa d "list")) = true)
      exact (V.bl.inj this).symm
    obtain ⟨a, xs, ds, b, ys, es, rfl, rfl, sx, sy, ax, ay, es0, ft⟩ := both_items (vx _ e15) (vy _ e15) c5 (by rw [Bool.not_eq_false'] at c4; exact c4) hb hci hcs
    obtain ⟨m, em, lx, ly, gx, gy⟩ := ft n' fx fy
    have l1 := dpa_len ax
    have l2 := dpa_len ay
    -- if len(actual) != len(due)
    refine q_when (et_test (ev_op (ev_lenS (ev_var rfl) sx) (ev_lenS (ev_var rfl) sy) (rv_ne rfl))) (fun hc H6 e6 => ?_) (fun hc H6 e6 => ?_)
    · refine s_ret ev_c fun H7 e7 => ?_
      have z : false = sm d e := by
        rw [es0]
        cases e9 : smAll ds es with
        | false => rfl
        | true =>
          have := smAll_len e9
          have h9 : (xs.length : Int) = (ys.length : Int) := by omega
          rw [h9] at hc
          simp at hc
      rw [z]
      exact q H7 ((e15.trans e6).trans e7)
    have h9 : ds.length = es.length := by
      have : V.int (xs.length : Int) = V.int (ys.length : Int) := of_decide_eq_true (by simpa using hc)
      have := V.int.inj this
      omega
    have e16 := e15.trans e6
    have sx := sq_ex e6 sx
    have sy := sq_ex e6 sy
    have ax := dpa_ex e6 ds _ ax
    have ay := dpa_ex e6 es _ ay
    refine s_ret (ev_op (ev_lenN (el_lcR1 (fun i => !sm (ds.getD i .none) (es.getD i .none)) (fun i => .int (i : Int)) (ea_cons (ev_lenS (ev_var rfl) sy) ea_nil) ⟨by omega, by omega⟩ (fun _ => rfl) (fun i H7 e7 hi => ?_) (fun i H7 e7 hi _ => ev_var rfl))) ev_c (rv_eq rfl)) fun H7 e7 => ?_
    · have hi2 : i < es.length := by omega
      obtain ⟨v1, g1, p1⟩ := dpa_at ax (show i < ds.length by omega)
      obtain ⟨v2, g2, p2⟩ := dpa_at ay hi2
      refine et_not (et_B (ev_call (vs := [v1, v2]) (ea_cons (ev_op (ev_var rfl) (ev_var rfl) (rv_ixS (sq_ex e7 sx) (atI_nat g1))) (ea_cons (ev_op (ev_var rfl) (ev_var rfl) (rv_ixS (sq_ex e7 sy) (atI_nat g2))) ea_nil)) fun H8 e8 Q8 q8 E8 => ?_))
      refine ⟨v1, v2, _, _, m, rfl, em, dp_ex (e7.trans e8) _ _ p1, dp_ex (e7.trans e8) _ _ p2, fitAll_mem gx ?_, fitAll_mem gy ?_, q8⟩
      · rw [List.getD_eq_getElem?_getD, List.getElem?_eq_getElem (show i < ds.length by omega)]
        exact List.getElem_mem _
      · rw [List.getD_eq_getElem?_getD, List.getElem?_eq_getElem hi2]
        exact List.getElem_mem _
    · have z : decide (V.int ((given (ys.length : Int).toNat (fun i => !sm (ds.getD i .none) (es.getD i .none)) (fun i => .int (i : Int))).length : Int) = V.int 0) = sm d e := by
        rw [es0, ← smAll_given h9 (fun i => .int (i : Int))]
        have h10 : (ys.length : Int).toNat = es.length := by omega
        rw [h10]
        have : ∀ k : Int, decide (V.int k = V.int 0) = decide (k = 0) := fun k => by
          rw [dec_int]
          exact (Bool.eq_iff_iff.mpr (by simp))
        exact this _
      rw [z]
      exact q H7 (e16.trans e7)
theorem ok_same {f : Addr} {fd : FuncData} (F : Fun K "_law_same" "_law_same" s_law_same f fd) (g : mg "_law_same" = some (.ref f)) (b : Binds K fd ["actual", "due"] []) (z_len : mg "len" = none) (z_isinstance : mg "isinstance" = none) (z_bool : mg "bool" = none) (z_int : mg "int" = none) (z_str : mg "str" = none)
    (z_list : mg "list" = none) (z_tuple : mg "tuple" = none) (z_range : mg "range" = none) : ∀ n, FnOk P w K mg base CX0 n f fd ["actual", "due"] (spSame K n)
  | 0 => ⟨fun _ _ _ _ ⟨_, _, _, _, _, _, h, _⟩ => (nomatch h), fun _ _ _ _ _ _ _ _ _ _ _ _ _ ⟨_, _, _, _, _, _, h, _⟩ => (nomatch h)⟩
  | n + 1 => same_step F z_len z_isinstance z_bool z_int z_str z_list z_tuple z_range ⟨f, fd, _, [], ok_same F g b z_len z_isinstance z_bool z_int z_str z_list z_tuple z_range n, g, F.kp, b, .nil⟩
end
/-! ### more of what evaluates to what -/
section
variable {K : PySem.W.Frag} {σ : L2.St} {H H' : Hp} {ta te tl : TE} {x y z v : V}
theorem el_is {xs ys : List V} (h : EvL te σ H xs) (e : xs = ys) : EvL te σ H ys := e ▸ h
theorem given_all (n : Nat) (v : Nat → V) : given n (fun _ => true) v = (List.range n).map v := by
  unfold given
  rw [List.filter_eq_self.mpr fun _ _ => rfl]
theorem et_yes : EvT tYes σ H true := fun H1 _ _ q => q H1 (Ex.refl H1)
/-- [e for k in range(n)] -/
theorem el_rng {tr : TA} {j : Nat} {vs : List Nat} {n : Nat} (v : Nat → V) (h : EvA tr σ H [.int (n : Int)]) (hn : n ≤ 40000) (hw : ∀ x, wipe ((wipe σ vs).set j (some x)) vs = wipe σ vs)
    (he : ∀ (i : Nat) H1, Ex H H1 → i < n → Ev te ((wipe σ vs).set j (some (.int (i : Int)))) H1 (v i)) : EvL (tLc (iRng1 tr) (gName j) tYes te vs) σ H ((List.range n).map v) :=
  el_is (el_lcR1 (fun _ => true) v h ⟨by omega, by omega⟩ hw (fun _ _ _ _ => et_yes) (fun i H1 e hi _ => he i H1 e (by omega))) (by rw [given_all, Int.toNat_natCast])
theorem ev_sumN {ns : List Int} (h : EvL te σ H (ns.map V.int)) : Ev (tCB (rSum K) (tCons te tNil)) σ H (.int ns.sum) := fun H1 e Q q =>
  h H1 e _ fun p H2 _ e2 h2 => ⟨p, ns, rfl, sq_of h2, q H2 e2⟩
def Cw2 (H : Hp) (n : Nat) (v : Nat → Nat → V) (D : Addr) (t : Nat) (H' : Hp) : Prop := H D = none ∧ Ex H H' ∧ H' D = some (.lst ((List.range t).map fun m => v (m / n) (m % n)))
/-- [e for i in range(w) for j in range(n)] -/
theorem el_rng2 {tr tr1 : TA} {j j1 : Nat} {vs vs1 : List Nat} {w n : Nat} (v : Nat → Nat → V) (h : EvA tr σ H [.int (w : Int)]) (hw0 : w ≤ 100) (hn0 : n ≤ 100)
    (hw : ∀ x, wipe ((wipe σ vs).set j (some x)) vs = wipe σ vs) (h1 : ∀ (i : Nat) H1, Ex H H1 → i < w → EvA tr1 ((wipe σ vs).set j (some (.int (i : Int)))) H1 [.int (n : Int)])
    (hw1 : ∀ x y, wipe ((wipe ((wipe σ vs).set j (some x)) vs1).set j1 (some y)) vs1 = wipe ((wipe σ vs).set j (some x)) vs1)
    (he : ∀ (i k : Nat) H1, Ex H H1 → i < w → k < n → Ev te ((wipe ((wipe σ vs).set j (some (.int (i : Int)))) vs1).set j1 (some (.int (k : Int)))) H1 (v i k)) :
    EvL (tLc2 (iRng1 tr) (gName j) tYes (iRng1 tr1) (gName j1) tYes te vs vs1) σ H ((List.range (w * n)).map fun m => v (m / n) (m % n)) := fun H0 e Q q => h H0 e _ fun H1 e1 => ⟨(w : Int), rfl, by omega, by omega, fun D hD => by
  have e01 := e.trans e1
  refine ⟨fun i m H' => m = w - i ∧ i ≤ w ∧ Cw2 H1 n v D (i * n) H', ⟨w, by omega, by omega, hD, Ex.new hD, ?_⟩, fun i m H' hW => ?_⟩
  · rw [upd_same, Nat.zero_mul]; rfl
  · obtain ⟨rfl, hi, p⟩ := hW
    by_cases hlt : i < w
    · refine .inr ⟨show i < (w : Int).toNat by omega, fun H2 => Cw2 H1 n v D ((i + 1) * n) H2, fun H2 p2 => ⟨w - (i + 1), by omega, rfl, hlt, p2⟩, fun x H2 y => ?_⟩
      obtain ⟨rfl, rfl⟩ := y
      have e0 : (0 : Int) + (i : Int) = (i : Int) := Int.zero_add _
      show wipe ((wipe σ vs).set j (some (.int ((0 : Int) + (i : Int))))) vs = wipe σ vs ∧ _
      refine ⟨hw _, ?_⟩
      rw [e0]
      refine h1 i _ (e01.trans p.2.1) hlt _ (Ex.refl _) _ fun H3 e3 => ⟨(n : Int), rfl, by omega, by omega, fun k m H4 => m = n - k ∧ k ≤ n ∧ Cw2 H1 n v D (i * n + k) H4, ⟨n, by omega, by omega, p.1, p.2.1.trans e3, e3 _ _ p.2.2⟩, fun k m H4 hW => ?_⟩
      obtain ⟨rfl, hk, p4⟩ := hW
      by_cases hlk : k < n
      · refine .inr ⟨show k < (n : Int).toNat by omega, fun H5 => Cw2 H1 n v D (i * n + (k + 1)) H5, fun H5 p5 => ⟨n - (k + 1), by omega, rfl, hlk, p5⟩, fun x H5 y => ?_⟩
        obtain ⟨rfl, rfl⟩ := y
        have e0 : (0 : Int) + (k : Int) = (k : Int) := Int.zero_add _
        show wipe ((wipe ((wipe σ vs).set j (some (.int (i : Int)))) vs1).set j1 (some (.int ((0 : Int) + (k : Int))))) vs1 = wipe ((wipe σ vs).set j (some (.int (i : Int)))) vs1 ∧ _
        refine ⟨hw1 _ _, ?_⟩
        rw [e0]
        show te _ _ _
        have hh : i * n + k < 10000 := by
          have : i * n ≤ 99 * 100 := Nat.mul_le_mul (by omega) hn0
          omega
        refine he i k _ (e01.trans p4.2.1) hlt hlk _ (Ex.refl _) _ fun H6 e6 => ⟨_, e6 _ _ p4.2.2, ?_, p4.1, Ex.mut (p4.2.1.trans e6) p4.1, ?_⟩
        · rw [List.length_map, List.length_range]
          exact sz_lt (by omega)
        · rw [upd_same, ← Nat.add_assoc, List.range_succ, List.map_append]
          have h1 : (i * n + k) / n = i := by rw [Nat.mul_comm, Nat.mul_add_div (by omega), Nat.div_eq_of_lt hlk, Nat.add_zero]
          have h2 : (i * n + k) % n = k := by rw [Nat.mul_comm, Nat.mul_add_mod, Nat.mod_eq_of_lt hlk]
          rw [List.map_singleton, h1, h2]
      · have : k = n := by omega
        subst this
        refine .inl ⟨show (k : Int).toNat ≤ k by omega, ?_⟩
        rw [Nat.succ_mul]
        exact p4
    · have : i = w := by omega
      subst this
      exact .inl ⟨show (i : Int).toNat ≤ i by omega, q D H' (fresh_back e1 p.1) (e1.trans p.2.1) p.2.2⟩⟩
/-- a comprehension over a list that is made on the way -/
theorem lc_new {xs : List V} {g : TG} {tt : TT} {vs : List Nat} {Q : VK} (h : EvL tl σ H xs)
    (k : ∀ L H1, H L = none → Ex H H1 → H1 L = some (.lst xs) → ∀ D, H1 D = none → ∃ W : Nat → Nat → Hp → Prop, (∃ m, W 0 m (upd H1 D (.lst []))) ∧ ∀ i m H, W i m H →
      ((Itl K L).stop i H ∧ Q (.ref D) H) ∨ ((Itl K L).go i H ∧ ∃ Nx : Hp → Prop, (∀ H', Nx H' → ∃ m', m' < m ∧ W (i + 1) m' H') ∧ ∀ x H', (Itl K L).yld i H x H' → g x (wipe σ vs) H' fun σ2 H2 => wipe σ2 vs = wipe σ vs ∧ tt σ2 H2 fun b H3 =>
        if b = true then te σ2 H3 fun y H4 => ∃ acc, H4 D = some (.lst acc) ∧ acc.length < sizeLine ∧ Nx (upd H4 D (.lst (acc ++ [y]))) else Nx H3)) : tLc (iList K tl) g tt te vs σ H Q :=
  h H (Ex.refl H) _ fun L H1 nL e1 hL => ⟨L, rfl, ⟨xs, sq_of hL⟩, k L H1 nL e1 hL⟩
theorem s_retR {D : Ends} (h : te σ H D.rt) : tRet te D σ H := h
end
/-! ### what evaluates to something that is so -/
section
variable {K : PySem.W.Frag} {σ : L2.St} {H H' : Hp} {ta te tx ty : TE} {v : V} {Φ Ψ : V → Hp → Prop} {E : XK}
def EvP (te : TE) (σ : L2.St) (H : Hp) (Φ : V → Hp → Prop) : Prop := ∀ H1, Ex H H1 → ∀ Q : VK, (∀ v H2, Ex H1 H2 → Φ v H2 → Q v H2) → te σ H1 Q
theorem EvP.mono (h : EvP te σ H Φ) (e : Ex H H') : EvP te σ H' Φ := fun H1 a Q q => h H1 (e.trans a) Q q
theorem EvP.imp (h : EvP te σ H Φ) (k : ∀ v H2, Ex H H2 → Φ v H2 → Ψ v H2) : EvP te σ H Ψ := fun H1 a Q q => h H1 a Q fun v H2 e f => q v H2 e (k v H2 (a.trans e) f)
theorem ep_ev (h : Ev te σ H v) (k : ∀ H2, Ex H H2 → Φ v H2) : EvP te σ H Φ := fun H1 a Q q => h H1 a Q fun H2 e => q v H2 e (k H2 (a.trans e))
theorem ep_el {xs : List V} (h : EvL te σ H xs) (k : ∀ p H2, Ex H H2 → H2 p = some (.lst xs) → Φ (.ref p) H2) : EvP te σ H Φ := fun H1 a Q q => h H1 a Q fun p H2 _ e hp => q _ H2 e (k p H2 (a.trans e) hp)
theorem ep_call1 {sp : Sp} (h : EvP tx σ H Φ) (k : ∀ v H2, Ex H H2 → Φ v H2 → ∀ Q : VK, (∀ w H3, Ex H2 H3 → Ψ w H3 → Q w H3) → sp [v] H2 Q E) : EvP (tCall sp [] E (tCons tx tNil)) σ H Ψ := fun H1 a Q q =>
  h H1 a _ fun v H2 e f => k v H2 (a.trans e) f Q fun w H3 e3 g => q w H3 (e.trans e3) g
/-- data -/
def DP (K : PySem.W.Frag) (d : PyData) (v : V) (H : Hp) : Prop := Dp K H v d
theorem ep_dp {d : PyData} (h : Ev te σ H v) (hd : Dp K H v d) : EvP te σ H (DP K d) := ep_ev h fun _ e => dp_ex e d v hd
theorem ev_same {d : PyData} {n : Nat} (hx : EvP tx σ H (DP K d)) (hy : EvP ty σ H (DP K d)) (hf : fit d n = true) : Ev (tCall (spSame K (n + 1)) [] E (tCons tx (tCons ty tNil))) σ H (.bl true) := fun H1 a Q q =>
  hx H1 a _ fun x H2 e2 dx => hy H2 (a.trans e2) _ fun y H3 e3 dy => ⟨x, y, d, d, n, rfl, rfl, dp_ex e3 d x dx, dy, hf, hf, fun H4 e4 => by
    rw [sm_refl d n hf]
    exact q H4 ((e2.trans e3).trans e4)⟩
/-- if not same(..): return False -/
theorem q_same {D : Ends} {d : PyData} {n : Nat} {tr tz : TS} (hx : EvP tx σ H (DP K d)) (hy : EvP ty σ H (DP K d)) (hf : fit d n = true) (k : ∀ H1, Ex H H1 → tz D σ H1) :
    tSeq (tIfS (tNot (tB (tCall (spSame K (n + 1)) [] E (tCons tx (tCons ty tNil))))) tr tNext) tz D σ H :=
  q_when (et_not (et_B (ev_same hx hy hf))) (fun h => (nomatch h)) fun _ H1 e => k H1 e
/-- a list of ints -/
def IL (K : PySem.W.Frag) (l : List Int) (v : V) (H : Hp) : Prop := ∃ a, v = .ref a ∧ SqL K H a (l.map V.int)
abbrev LI (l : List Int) : PyData := .list (l.map PyData.int)
theorem ep_il {a : Addr} {l : List Int} (h : Ev te σ H (.ref a)) (hS : SqL K H a (l.map V.int)) : EvP te σ H (IL K l) := ep_ev h fun _ e => ⟨a, rfl, ex_l e hS⟩
theorem il_el {l : List Int} (h : EvL te σ H (l.map V.int)) : EvP te σ H (IL K l) := ep_el h fun p H2 _ hp => ⟨p, rfl, sq_of hp⟩
theorem il_dp {l : List Int} (h : EvP te σ H (IL K l)) : EvP te σ H (DP K (LI l)) := h.imp fun v H2 _ f => by
  obtain ⟨a, rfl, hS⟩ := f
  exact .lst hS (dpa_ints l)
theorem fit_LI {l : List Int} {n : Nat} (h : l.length ≤ 10000) : fit (LI l) (n + 1) = true := by
  rw [fit, fit_ints, Bool.and_true, decide_eq_true_eq, List.length_map]
  exact h
theorem q_run {i : Nat} {tz : TS} {D : Ends} (h : te σ H fun v H1 => tz D (σ.set i (some v)) H1) : tSeq (tAsg te (gName i)) tz D σ H := h
end
/-! ### statements -/
inductive Stm where
  | set (k : Nat) (r : List Int)
  | carry (r : List Int)
  | keep (cs : List Nat) (b : List Stm)
  | either (a b : List Stm)
  | again (b : List Stm)
  | call (p : Nat) (r : List Int) (a b : List Stm)
  | fin (w : Nat)
mutual
def toD : Stm → PyData
  | .set k r => .tuple [.str "set", .int (k : Int), LI r]
  | .carry r => .tuple [.str "carry", LI r]
  | .keep cs b => .tuple [.str "keep", LI (cs.map (Nat.cast : Nat → Int)), .list (toDs b)]
  | .either a b => .tuple [.str "either", .list (toDs a), .list (toDs b)]
  | .again b => .tuple [.str "again", .list (toDs b)]
  | .call p r a b => .tuple [.str "call", .int (p : Int), LI r, .list [.list (toDs a), .list (toDs b)]]
  | .fin w => .tuple [.str "end", .int (w : Int)]
def toDs : List Stm → List PyData
  | [] => []
  | s :: r => toD s :: toDs r
end
mutual
/-- how many statements, all levels counted -/
def cnt : Stm → Nat
  | .set _ _ => 1
  | .carry _ => 1
  | .keep _ b => 1 + cntL b
  | .either a b => 1 + cntL a + cntL b
  | .again b => 1 + cntL b
  | .call _ _ a b => 1 + cntL a + cntL b
  | .fin _ => 1
def cntL : List Stm → Nat
  | [] => 0
  | s :: r => cnt s + cntL r
end
def okR (c : Nat) (r : List Int) : Prop := r.length = c + 2 ∧ ∀ x ∈ r, -9 ≤ x ∧ x ≤ 9
/-- ascending, each below c -/
def asc (c : Nat) (cs : List Nat) : Prop := cs.Pairwise (· < ·) ∧ ∀ k ∈ cs, k < c
mutual
/-- a statement of a book with c cells and m procedures, at a level -/
def okS (c m : Nat) : Stm → Nat → Prop
  | .set k r, _ => k < c ∧ okR c r
  | .carry r, _ => okR c r
  | .keep cs b, lv => lv < 3 ∧ asc c cs ∧ b.length ≤ 8 ∧ okL c m b (lv + 1)
  | .either a b, lv => lv < 3 ∧ a.length ≤ 8 ∧ okL c m a (lv + 1) ∧ b.length ≤ 8 ∧ okL c m b (lv + 1)
  | .again b, lv => lv < 3 ∧ b.length ≤ 8 ∧ okL c m b (lv + 1)
  | .call p r a b, lv => lv < 3 ∧ p < m ∧ okR c r ∧ a.length ≤ 8 ∧ okL c m a (lv + 1) ∧ b.length ≤ 8 ∧ okL c m b (lv + 1)
  | .fin w, _ => w < 2
def okL (c m : Nat) : List Stm → Nat → Prop
  | [], _ => True
  | s :: r, lv => okS c m s lv ∧ okL c m r lv
end
theorem okL_app {c m lv : Nat} : ∀ {a b : List Stm}, okL c m a lv → okL c m b lv → okL c m (a ++ b) lv
  | [], _, _, h => h
  | s :: r, b, h, g => by
    rw [okL] at h
    rw [List.cons_append, okL]
    exact ⟨h.1, okL_app h.2 g⟩
theorem cntL_app : ∀ (a b : List Stm), cntL (a ++ b) = cntL a + cntL b
  | [], b => by rw [List.nil_append, cntL, Nat.zero_add]
  | s :: r, b => by rw [List.cons_append, cntL, cntL, cntL_app r b, Nat.add_assoc]
theorem toDs_app : ∀ (a b : List Stm), toDs (a ++ b) = toDs a ++ toDs b
  | [], b => by rw [List.nil_append, toDs, List.nil_append]
  | s :: r, b => by rw [List.cons_append, toDs, toDs, toDs_app r b, List.cons_append]
theorem toDs_map : ∀ l : List Stm, toDs l = l.map toD
  | [] => by rw [toDs]; rfl
  | s :: r => by rw [toDs, toDs_map r]; rfl
theorem toDs_len (l : List Stm) : (toDs l).length = l.length := by rw [toDs_map, List.length_map]
theorem okL_mem {c m lv : Nat} : ∀ {l : List Stm} {s : Stm}, okL c m l lv → s ∈ l → okS c m s lv
  | t :: r, s, h, hm => by
    rw [okL] at h
    rcases List.mem_cons.mp hm with rfl | hm
    · exact h.1
    · exact okL_mem h.2 hm
/-! ### data whose lists and tuples stand where N says -/
mutual
inductive Dq (N : Addr → Prop) (H : Hp) : V → PyData → Prop
  | non : Dq N H .non .none
  | bl (b : Bool) : Dq N H (.bl b) (.bool b)
  | int (i : Int) : Dq N H (.int i) (.int i)
  | str (x : Str) : Dq N H (.str x) (.str x)
  | lst {a : Addr} {xs : List V} {ds : List PyData} : N a → H a = some (.lst xs) → DqAll N H xs ds → Dq N H (.ref a) (.list ds)
  | tup {a : Addr} {xs : List V} {ds : List PyData} : N a → H a = some (.tup xs) → DqAll N H xs ds → Dq N H (.ref a) (.tuple ds)
inductive DqAll (N : Addr → Prop) (H : Hp) : List V → List PyData → Prop
  | nil : DqAll N H [] []
  | cons {v : V} {vs : List V} {d : PyData} {ds : List PyData} : Dq N H v d → DqAll N H vs ds → DqAll N H (v :: vs) (d :: ds)
end
section
variable {N N' : Addr → Prop} {H H' : Hp} {K : PySem.W.Frag}
mutual
theorem dq_to (h : ∀ a, N a → N' a) (k : ∀ a o, N a → H a = some o → H' a = some o) : ∀ (d : PyData) (v : V), Dq N H v d → Dq N' H' v d
  | .none, _, x => by cases x; exact .non
  | .bool _, _, x => by cases x; exact .bl _
  | .int _, _, x => by cases x; exact .int _
  | .str _, _, x => by cases x; exact .str _
  | .list ds, _, x => by
    cases x with
    | lst n s a => exact .lst (h _ n) (k _ _ n s) (dqa_to h k ds _ a)
  | .tuple ds, _, x => by
    cases x with
    | tup n s a => exact .tup (h _ n) (k _ _ n s) (dqa_to h k ds _ a)
  | .dict _, _, x => by cases x
theorem dqa_to (h : ∀ a, N a → N' a) (k : ∀ a o, N a → H a = some o → H' a = some o) : ∀ (ds : List PyData) (vs : List V), DqAll N H vs ds → DqAll N' H' vs ds
  | [], _, x => by cases x; exact .nil
  | d :: ds, _, x => by
    cases x with
    | cons a b => exact .cons (dq_to h k d _ a) (dqa_to h k ds _ b)
end
mutual
theorem dq_dp : ∀ (d : PyData) (v : V), Dq N H v d → Dp K H v d
  | .none, _, x => by cases x; exact .non
  | .bool _, _, x => by cases x; exact .bl _
  | .int _, _, x => by cases x; exact .int _
  | .str _, _, x => by cases x; exact .str _
  | .list ds, _, x => by
    cases x with
    | lst n s a => exact .lst (sq_of s) (dqa_dpa ds _ a)
  | .tuple ds, _, x => by
    cases x with
    | tup n s a => exact .tup (st_of s) (dqa_dpa ds _ a)
  | .dict _, _, x => by cases x
theorem dqa_dpa : ∀ (ds : List PyData) (vs : List V), DqAll N H vs ds → DpAll K H vs ds
  | [], _, x => by cases x; exact .nil
  | d :: ds, _, x => by
    cases x with
    | cons a b => exact .cons (dq_dp d _ a) (dqa_dpa ds _ b)
end
theorem dqa_app : ∀ {vs ws : List V} {ds es : List PyData}, DqAll N H vs ds → DqAll N H ws es → DqAll N H (vs ++ ws) (ds ++ es)
  | _, _, _, _, .nil, h => h
  | _, _, _, _, .cons a b, h => .cons a (dqa_app b h)
theorem dqa_len : ∀ {vs : List V} {ds : List PyData}, DqAll N H vs ds → vs.length = ds.length
  | _, _, .nil => rfl
  | _, _, .cons _ b => by rw [List.length_cons, List.length_cons, dqa_len b]
theorem dqa_ints : ∀ ns : List Int, DqAll N H (ns.map V.int) (ns.map PyData.int)
  | [] => .nil
  | n :: r => .cons (.int n) (dqa_ints r)
theorem dq_LI {a : Addr} {l : List Int} (n : N a) (h : H a = some (.lst (l.map V.int))) : Dq N H (.ref a) (LI l) := .lst n h (dqa_ints l)
end
/-- new since H -/
def New (H : Hp) (a : Addr) : Prop := H a = none
/-- all but p and wd as it was -/
def Oth2 (p wd : Addr) (H H' : Hp) : Prop := ∀ a o, a ≠ p → a ≠ wd → H a = some o → H' a = some o
theorem Oth2.refl (p wd : Addr) (H : Hp) : Oth2 p wd H H := fun _ _ _ _ h => h
theorem Oth2.trans {p wd : Addr} {H H1 H2 : Hp} (a : Oth2 p wd H H1) (b : Oth2 p wd H1 H2) : Oth2 p wd H H2 := fun c o n m h => b c o n m (a c o n m h)
theorem Oth2.of {p wd : Addr} {H H1 : Hp} (a : Ex H H1) : Oth2 p wd H H1 := fun c o _ _ h => a c o h
theorem Oth2.one {p wd : Addr} {H H1 : Hp} (a : Oth p H H1) : Oth2 p wd H H1 := fun c o n _ h => a c o n h
theorem new_back {p : Addr} {H H1 : Hp} {a : Addr} (o : Oth p H H1) (hp : ∃ u, H1 p = some u) (h : New H1 a) : New H a := by
  obtain ⟨u, hu⟩ := hp
  have hap : a ≠ p := fun z => by rw [z] at h; unfold New at h; rw [hu] at h; cases h
  unfold New at *
  cases e : H a with
  | none => rfl
  | some w => rw [o _ _ hap e] at h; cases h
theorem new_ne {H : Hp} {a p : Addr} (h : New H a) (hp : ∃ u, H p = some u) : a ≠ p := fun z => by
  obtain ⟨u, hu⟩ := hp
  unfold New at h
  rw [z, hu] at h; cases h
theorem new_back2 {p wd : Addr} {H H1 : Hp} {a : Addr} (o : Oth2 p wd H H1) (hp : ∃ u, H1 p = some u) (hw : ∃ u, H1 wd = some u) (h : New H1 a) : New H a := by
  have h1 := new_ne h hp
  have h2 := new_ne h hw
  unfold New at *
  cases e : H a with
  | none => rfl
  | some w => rw [o _ _ h1 h2 e] at h; cases h
/-- the counts of a body that is being made -/
structure World3 (H : Hp) (wd q : Addr) (c m room : Nat) : Prop where
  hw : H wd = some (.lst [.int (c : Int), .int (m : Int), .int (room : Int)])
  ne : wd ≠ q
theorem World3.nep {H : Hp} {wd p q : Addr} {c m room : Nat} (w : World3 H wd q c m room) (x : Pool H p q) : wd ≠ p := by
  obtain ⟨i, b, t, s, cs, x⟩ := x
  exact ne_of w.hw x.hp fun e => by
    have := congrArg List.length (HO.lst.inj e)
    cases this
theorem World3.one {H H' : Hp} {wd p q : Addr} {c m room : Nat} (w : World3 H wd q c m room) (x : Pool H p q) (o : Oth p H H') : World3 H' wd q c m room := ⟨o _ _ (w.nep x) w.hw, w.ne⟩
theorem World3.ex {H H' : Hp} {wd q : Addr} {c m room : Nat} (w : World3 H wd q c m room) (o : Ex H H') : World3 H' wd q c m room := ⟨o _ _ w.hw, w.ne⟩
abbrev s_law_row : Stmt := topS 54
theorem sc_law_row : FnScope ["pool", "cells", "row", "k", "wide"] ["pool", "cells"] (defScope s_law_row) := ⟨rfl, rfl, rfl, by decide +kernel, rfl, by decide +kernel, by decide +kernel⟩
abbrev s_law_command : Stmt := topS 55
theorem sc_law_command : FnScope ["pool", "cells", "at"] ["pool", "cells"] (defScope s_law_command) := ⟨rfl, rfl, rfl, by decide +kernel, rfl, by decide +kernel, by decide +kernel⟩
section
variable {P : Program} {w : World} {K : PySem.W.Frag} {mg : Str → Option Value} {base : Heap}
def spRow : Sp := fun vs H Q _ => ∃ (p q : Addr) (c : Nat), vs = [.ref p, .int (c : Int)] ∧ c ≤ 3 ∧ Pool H p q ∧ ∀ (r : List Int) (D : Addr) (H' : Hp), okR c r → H D = none → Oth p H H' → Pool H' p q → H' D = some (.lst (r.map V.int)) → Q (.ref D) H'
theorem ok_row {f : Addr} {fd : FuncData} {k : Nat} (F : Fun K "_law_row" "_law_row" s_law_row f fd) (z_range : mg "range" = none) (C_law_draw : Cal P w K mg base 1 "_law_draw" spDraw []) (hk : 1 ≤ k) : FnOk P w K mg base CX0 (k + 1) f fd ["pool", "cells"] spRow := by
  have sc := sc_law_row
  refine F.ok sc (fun vs H Q E h => ?_) (fun cdv A outer s H vs Q E hr h => ?_)
  · obtain ⟨p, q0, c, rfl, _⟩ := h
    rfl
  · obtain ⟨p, q0, c, rfl, h3, x, q⟩ := h
    refine ⟨_, (pss_cons (ps_set (i := 2) sc.nd rfl (by first | exact Or.inl rfl | exact Or.inr rfl) (pe_lst pa_nil))
      (pss_cons (ps_for PassesOwn.never rfl (pi_range1 (by rfl) z_range (pa_cons (pe_op op_add (pv 1) pe_int) pa_nil)) (pg_name (i := 3) sc.nd rfl (by first | exact Or.inl rfl | exact Or.inr rfl))
      (pss_cons (ps_set (i := 4) sc.nd rfl (by first | exact Or.inl rfl | exact Or.inr rfl) (pe_c C_law_draw hr (by omega) (by rfl) (pa_cons (pv 0) (pa_cons pe_int pa_nil))))
      (pss_one (ps_if (pt_cmpR op_eq (pv 4) pe_int (nomark _))
      (pss_one (ps_expr (pe_bm PySem.F.plainAttrs_list PySem.F.slot_list_append PySem.F.type_list_append mt_append (pv 2) (pa_cons (pe_op op_sub (pe_c C_law_draw hr (by omega) (by rfl) (pa_cons (pv 0) (pa_cons pe_int pa_nil))) pe_int) pa_nil))))
      (pss_one (ps_expr (pe_bm PySem.F.plainAttrs_list PySem.F.slot_list_append PySem.F.type_list_append mt_append (pv 2) (pa_cons (pe_op op_sub (pe_c C_law_draw hr (by omega) (by rfl) (pa_cons (pv 0) (pa_cons pe_int pa_nil))) pe_int) pa_nil))))))))
      (pss_one (ps_ret (pv 2))))), ?_⟩
    refine q_asgL (el_lst ea_nil (by decide)) fun F0 H1 nF e1 hF => ?_
    have Fp : F0 ≠ p := new_ne nF x.isP
    have Fq : F0 ≠ q0 := new_ne nF x.isQ
    refine q_forR1 (n := ((c + 2 : Nat) : Int)) (ea_cons (ev_is (ev_op (ev_var rfl) ev_c rv_I0) (by rw [Int.natCast_add]; rfl)) ea_nil) ⟨by omega, by omega⟩
      (fun i σ' H' => ∃ (r : List Int) (y3 y4 : Option V), σ' = [some (.ref p), some (.int (c : Int)), some (.ref F0), y3, y4] ∧ r.length = i ∧ (∀ z ∈ r, -9 ≤ z ∧ z ≤ 9) ∧ Oth p H H' ∧ Pool H' p q0 ∧ H' F0 = some (.lst (r.map V.int)))
      (fun H2 e2 => ⟨[], _, _, rfl, rfl, fun _ h => (nomatch h), .of (e1.trans e2), x.ex (e1.trans e2), e2 _ _ hF⟩) (fun i σ' H' hi hW => ?_) (fun σ' H' hW => ?_)
    · obtain ⟨r, y3, y4, rfl, rfl, hb, o, x, hF⟩ := hW
      have add : ∀ (z : Int) (H3 : Hp), -9 ≤ z → z ≤ 9 → Oth p H' H3 → Pool H3 p q0 → ∃ acc, H3 F0 = some (.lst acc) ∧ acc = r.map V.int ∧ ∃ (r' : List Int), acc ++ [V.int z] = r'.map V.int ∧ r'.length = r.length + 1 ∧ (∀ y ∈ r', -9 ≤ y ∧ y ≤ 9) ∧ Oth p H (upd H3 F0 (.lst (acc ++ [V.int z]))) ∧ Pool (upd H3 F0 (.lst (acc ++ [V.int z]))) p q0 := fun z H3 z0 z9 o3 x3 => by
        refine ⟨_, o3 _ _ Fp hF, rfl, r ++ [z], by rw [List.map_append]; rfl, by simp, fun y hy => ?_, fun a u na ha => ?_, x3.upd Fp Fq⟩
        · rcases List.mem_append.mp hy with hy | hy
          · exact hb y hy
          · rw [List.mem_singleton.mp hy]; exact ⟨z0, z9⟩
        · rw [upd_ne (ne_of_none ha nF)]
          exact o3 _ _ na (o _ _ na ha)
      refine q_run ?_
      refine ⟨.ref p, rfl, p, q0, 4, rfl, by decide, by decide, x, fun wd H2 w0 w4 o2 x2 => ?_⟩
      refine ⟨.int wd, rfl, rfl, _, rfl, ite2 (fun _ => ?_) (fun _ => ?_)⟩
      · refine ⟨.ref F0, rfl, .inl ⟨rfl, _, sq_of (o2 _ _ Fp hF)⟩, .ref p, rfl, p, q0, 19, rfl, by decide, by decide, x2, fun z H3 z0 z1 o3 x3 => ?_⟩
        obtain ⟨acc, hacc, ea, r', er, lr, br, oo, xx⟩ := add (z - 9) H3 (by omega) (by omega) (o2.trans o3) x3
        refine ⟨z, 9, rfl, rfl, F0, acc, _, rfl, rfl, hacc, ?_, r', _, _, rfl, lr, br, oo, xx, ?_⟩
        · rw [ea, List.length_map]; exact sz_lt (by omega)
        · rw [upd_same, er]
      · refine ⟨.ref F0, rfl, .inl ⟨rfl, _, sq_of (o2 _ _ Fp hF)⟩, .ref p, rfl, p, q0, 3, rfl, by decide, by decide, x2, fun z H3 z0 z1 o3 x3 => ?_⟩
        obtain ⟨acc, hacc, ea, r', er, lr, br, oo, xx⟩ := add (z - 1) H3 (by omega) (by omega) (o2.trans o3) x3
        refine ⟨z, 1, rfl, rfl, F0, acc, _, rfl, rfl, hacc, ?_, r', _, _, rfl, lr, br, oo, xx, ?_⟩
        · rw [ea, List.length_map]; exact sz_lt (by omega)
        · rw [upd_same, er]
    · obtain ⟨r, y3, y4, rfl, lr, hb, o, x, hF⟩ := hW
      refine s_ret (ev_var rfl) fun H2 e2 => q r F0 H2 ⟨by omega, hb⟩ nF (o.trans (.of e2)) (x.ex e2) (e2 _ _ hF)
/-- a command -/
def isCmd (c : Nat) : Stm → Prop
  | .set k r => k < c ∧ okR c r
  | .carry r => okR c r
  | _ => False
theorem isCmd_ok {c m lv : Nat} {s : Stm} (h : isCmd c s) : okS c m s lv ∧ cnt s = 1 := by
  cases s with
  | set k r => rw [okS, cnt]; exact ⟨h, rfl⟩
  | carry r => rw [okS, cnt]; exact ⟨h, rfl⟩
  | _ => exact h.elim
def spCmd : Sp := fun vs H Q _ => ∃ (p q : Addr) (c : Nat), vs = [.ref p, .int (c : Int)] ∧ 1 ≤ c ∧ c ≤ 3 ∧ Pool H p q ∧ ∀ (s : Stm) (v : V) (H' : Hp), isCmd c s → Oth p H H' → Pool H' p q → Dq (New H) H' v (toD s) → Q v H'
theorem ok_command {f : Addr} {fd : FuncData} {k : Nat} (F : Fun K "_law_command" "_law_command" s_law_command f fd) (C_law_draw : Cal P w K mg base 1 "_law_draw" spDraw []) (C_law_row : Cal P w K mg base 2 "_law_row" spRow []) (hk : 2 ≤ k) : FnOk P w K mg base CX0 (k + 1) f fd ["pool", "cells"] spCmd := by
  have sc := sc_law_command
  refine F.ok sc (fun vs H Q E h => ?_) (fun cdv A outer s H vs Q E hr h => ?_)
  · obtain ⟨p, q0, c, rfl, _⟩ := h
    rfl
  · obtain ⟨p, q0, c, rfl, h1, h3, x, q⟩ := h
    refine ⟨_, (pss_cons (ps_set (i := 2) sc.nd rfl (by first | exact Or.inl rfl | exact Or.inr rfl) (pe_c C_law_draw hr (by omega) (by rfl) (pa_cons (pv 0) (pa_cons (pe_op op_add (pv 1) pe_int) pa_nil))))
      (pss_cons (ps_if (pt_cmpR op_eq (pv 2) (pv 1) (nomark _))
      (pss_one (ps_ret (pe_tup (pa_cons pe_str (pa_cons (pe_c C_law_row hr (by omega) (by rfl) (pa_cons (pv 0) (pa_cons (pv 1) pa_nil))) pa_nil)))))
      pss_nil)
      (pss_one (ps_ret (pe_tup (pa_cons pe_str (pa_cons (pv 2) (pa_cons (pe_c C_law_row hr (by omega) (by rfl) (pa_cons (pv 0) (pa_cons (pv 1) pa_nil))) pa_nil)))))))), ?_⟩
    refine q_run ?_
    refine ⟨.ref p, rfl, .int (c : Int), rfl, (c : Int), 1, rfl, rfl, p, q0, (c : Int) + 1, rfl, by omega, Nat.lt_of_le_of_lt (show ((c : Int) + 1).natAbs ≤ 4 by omega) (by decide), x, fun z H2 z0 z1 o2 x2 => ?_⟩
    refine ⟨.int z, rfl, .int (c : Int), rfl, rfl, _, rfl, ite2 (fun _ => ?_) (fun hz => ?_)⟩
    · refine ⟨.ref p, rfl, .int (c : Int), rfl, p, q0, c, rfl, h3, x2, fun r D H3 hr nD o3 x3 hD => ?_⟩
      refine ⟨by show 2 ≤ sizeLine; decide, fun T nT => q (.carry r) _ _ hr (o2.trans (o3.trans (.of (Ex.new nT)))) (x3.ex (Ex.new nT)) ?_⟩
      rw [toD]
      have nD0 : New H D := new_back o2 x2.isP nD
      exact .tup (new_back (o2.trans o3) x3.isP nT) upd_same (.cons (.str _) (.cons (dq_LI nD0 (Ex.new nT _ _ hD)) .nil))
    · have hne : z ≠ (c : Int) := fun e => hz (by rw [e]; exact decide_eq_true rfl)
      obtain ⟨kk, rfl⟩ : ∃ kk : Nat, z = (kk : Int) := ⟨z.toNat, by omega⟩
      refine ⟨.int (kk : Int), rfl, .ref p, rfl, .int (c : Int), rfl, p, q0, c, rfl, h3, x2, fun r D H3 hr nD o3 x3 hD => ?_⟩
      refine ⟨by show 3 ≤ sizeLine; decide, fun T nT => q (.set kk r) _ _ ⟨by omega, hr⟩ (o2.trans (o3.trans (.of (Ex.new nT)))) (x3.ex (Ex.new nT)) ?_⟩
      rw [toD]
      have nD0 : New H D := new_back o2 x2.isP nD
      exact .tup (new_back (o2.trans o3) x3.isP nT) upd_same (.cons (.str _) (.cons (.int _) (.cons (dq_LI nD0 (Ex.new nT _ _ hD)) .nil)))
end
abbrev s_law_some_cells : Stmt := topS 56
theorem sc_law_some_cells : FnScope ["pool", "cells", "cell", "k"] ["pool", "cells"] (defScope s_law_some_cells) := ⟨rfl, rfl, rfl, by decide +kernel, rfl, by decide +kernel, by decide +kernel⟩
section
variable {P : Program} {w : World} {K : PySem.W.Frag} {mg : Str → Option Value} {base : Heap}
def spCells : Sp := fun vs H Q _ => ∃ (p q : Addr) (c : Nat), vs = [.ref p, .int (c : Int)] ∧ c ≤ 3 ∧ Pool H p q ∧ ∀ (cs : List Nat) (D : Addr) (H' : Hp), asc c cs → H D = none → Oth p H H' → Pool H' p q → H' D = some (.lst ((cs.map (Nat.cast : Nat → Int)).map V.int)) → Q (.ref D) H'
theorem asc_step {i : Nat} {cs : List Nat} (h : asc i cs) : asc (i + 1) (cs ++ [i]) ∧ asc (i + 1) cs := by
  refine ⟨⟨?_, fun k hk => ?_⟩, h.1, fun k hk => Nat.lt_succ_of_lt (h.2 k hk)⟩
  · rw [List.pairwise_append]
    exact ⟨h.1, by simp, fun a ha b hb => by rw [List.mem_singleton.mp hb]; exact h.2 a ha⟩
  · rcases List.mem_append.mp hk with hk | hk
    · exact Nat.lt_succ_of_lt (h.2 k hk)
    · rw [List.mem_singleton.mp hk]; exact Nat.lt_succ_self _
theorem ok_cells {f : Addr} {fd : FuncData} {k : Nat} (F : Fun K "_law_some_cells" "_law_some_cells" s_law_some_cells f fd) (z_range : mg "range" = none) (C_law_draw : Cal P w K mg base 1 "_law_draw" spDraw []) (hk : 1 ≤ k) : FnOk P w K mg base CX0 (k + 1) f fd ["pool", "cells"] spCells := by
  have sc := sc_law_some_cells
  refine F.ok sc (fun vs H Q E h => ?_) (fun cdv A outer s H vs Q E hr h => ?_)
  · obtain ⟨p, q0, c, rfl, _⟩ := h
    rfl
  · obtain ⟨p, q0, c, rfl, h3, x, q⟩ := h
    refine ⟨_, (pss_one (ps_ret (pe_lc (own := [("cell", 2)]) (by rfl) sc.nd (pi_list (pe_lc (own := [("k", 3)]) (by rfl) sc.nd (pi_range1 (by rfl) z_range (pa_cons (pv 1) pa_nil)) (blkOk_by (own := [("k", 3)]) (N := ["pool", "cells", "cell", "k"]) (sc := defScope s_law_some_cells) (by decide +kernel)) (fun _ _ _ _ _ => (pg_name (i := 3) sc.nd rfl (by first | exact Or.inl rfl | exact Or.inr rfl))) (fun _ _ _ _ _ => pts_nil) (fun _ _ _ _ _ => (pv 3)))) (blkOk_by (own := [("cell", 2)]) (N := ["pool", "cells", "cell", "k"]) (sc := defScope s_law_some_cells) (by decide +kernel)) (fun _ _ _ _ _ => (pg_name (i := 2) sc.nd rfl (by first | exact Or.inl rfl | exact Or.inr rfl))) (fun _ _ _ _ _ => (pts_one (pt_cmpR op_eq (pe_c C_law_draw hr (by omega) (by rfl) (pa_cons (pv 0) (pa_cons pe_int pa_nil))) pe_int (nomark _)))) (fun _ _ _ _ _ => (pv 2))))), ?_⟩
    refine s_retR (lc_new (el_rng (n := c) (fun i => .int (i : Int)) (ea_cons (ev_var rfl) ea_nil) (by omega) (fun _ => rfl) (fun i H1 e1 hi => ev_var rfl)) fun L H1 nL e1 hL D nD => ?_)
    have x1 := x.ex e1
    have Dp1 : D ≠ p := new_ne nD x1.isP
    have Dq1 : D ≠ q0 := new_ne nD x1.isQ
    have DL : L ≠ D := ne_of_none hL nD
    have Lp : L ≠ p := new_ne nL x.isP
    refine lc_list (xs := (List.range c).map fun (i : Nat) => V.int (i : Int)) (fun i H' => ∃ cs : List Nat, asc i cs ∧ cs.length ≤ i ∧ Oth p H1 H' ∧ Pool H' p q0 ∧ H' D = some (.lst ((cs.map (Nat.cast : Nat → Int)).map V.int)))
      ⟨[], ⟨.nil, fun _ h => (nomatch h)⟩, Nat.le_refl _, .of (Ex.new nD), x1.ex (Ex.new nD), upd_same⟩ (fun i H' _ hP => ?_) (fun i v H' hi hP => ?_) (fun H' hP => ?_)
    · obtain ⟨cs, _, _, o, _⟩ := hP
      exact sq_of (o _ _ Lp hL)
    · obtain ⟨cs, ha, hlen, o, x2, hD⟩ := hP
      have hic : i < c := by
        have := (List.getElem?_eq_some_iff.mp hi).1
        rw [List.length_map, List.length_range] at this
        exact this
      rw [List.getElem?_map, List.getElem?_range hic] at hi
      have hv : V.int (i : Int) = v := Option.some.inj hi
      subst hv
      show wipe ((wipe _ _).set 2 (some (.int (i : Int)))) _ = wipe _ _ ∧ _
      refine ⟨rfl, .ref p, rfl, p, q0, 2, rfl, by decide, by decide, x2, fun z H3 z0 z1 o3 x3 => ?_⟩
      refine ⟨rfl, _, rfl, ite2 (fun _ => ?_) (fun _ => ?_)⟩
      · refine ⟨.int (i : Int), rfl, _, o3 _ _ Dp1 hD, ?_, cs ++ [i], (asc_step ha).1, by simp; omega, fun a u na hu => ?_, x3.upd Dp1 Dq1, ?_⟩
        · rw [List.length_map, List.length_map]; exact sz_lt (by omega)
        · rw [upd_ne (ne_of_none hu nD)]
          exact o3 _ _ na (o _ _ na hu)
        · rw [upd_same, List.map_append, List.map_append]; rfl
      · exact ⟨cs, (asc_step ha).2, by omega, o.trans o3, x3, o3 _ _ Dp1 hD⟩
    · obtain ⟨cs, ha, hlen, o, x2, hD⟩ := hP
      rw [List.length_map, List.length_range] at ha
      exact q cs D H' ha (fresh_back e1 nD) ((Oth.of e1).trans o) x2 hD
end
abbrev s_law_block : Stmt := topS 57
theorem sc_law_block : FnScope ["pool", "world", "tier", "most", "found", "k"] ["pool", "world", "tier", "most"] (defScope s_law_block) := ⟨rfl, rfl, rfl, by decide +kernel, rfl, by decide +kernel, by decide +kernel⟩
abbrev s_law_statement : Stmt := topS 58
theorem sc_law_statement : FnScope ["pool", "world", "tier", "kind", "cells", "procedure", "row", "first", "kept"] ["pool", "world", "tier"] (defScope s_law_statement) := ⟨rfl, rfl, rfl, by decide +kernel, rfl, by decide +kernel, by decide +kernel⟩
abbrev s_law_body : Stmt := topS 59
theorem sc_law_body : FnScope ["pool", "cells", "many", "room", "tier", "world", "body"] ["pool", "cells", "many", "room", "tier"] (defScope s_law_body) := ⟨rfl, rfl, rfl, by decide +kernel, rfl, by decide +kernel, by decide +kernel⟩
section
variable {P : Program} {w : World} {K : PySem.W.Frag} {mg : Str → Option Value} {base : Heap}
/-- a statement at the level t -/
def spStmt (t : Nat) : Sp := fun vs H Q _ => ∃ (p q wd : Addr) (c m room : Nat), vs = [.ref p, .ref wd, .int (t : Int)] ∧ t ≤ 3 ∧ 1 ≤ c ∧ c ≤ 3 ∧ 1 ≤ m ∧ m ≤ 3 ∧ Pool H p q ∧ World3 H wd q c m room ∧
  ∀ (s : Stm) (v : V) (room' : Nat) (H' : Hp), okS c m s t → room' + cnt s = room + 1 → Oth2 p wd H H' → Pool H' p q → World3 H' wd q c m room' → Dq (New H) H' v (toD s) → Q v H'
/-- a block at the level t -/
def spBlk (t : Nat) : Sp := fun vs H Q _ => ∃ (p q wd : Addr) (c m room most : Nat), vs = [.ref p, .ref wd, .int (t : Int), .int (most : Int)] ∧ t ≤ 3 ∧ most ≤ 3 ∧ 1 ≤ c ∧ c ≤ 3 ∧ 1 ≤ m ∧ m ≤ 3 ∧ Pool H p q ∧ World3 H wd q c m room ∧
  ∀ (b : List Stm) (v : V) (room' : Nat) (H' : Hp), okL c m b t → b.length ≤ most → room' + cntL b = room → Oth2 p wd H H' → Pool H' p q → World3 H' wd q c m room' → Dq (New H) H' v (.list (toDs b)) → Q v H'
theorem ev_w {σ : L2.St} {H : Hp} {wd q : Addr} {c m room : Nat} {te : TE} (h : Ev te σ H (.ref wd)) (x : World3 H wd q c m room) : Ev (tOp (rIxL K) te (tC (.int 2))) σ H (.int (room : Int)) ∧ Ev (tOp (rIxL K) te (tC (.int 0))) σ H (.int (c : Int)) ∧ Ev (tOp (rIxL K) te (tC (.int 1))) σ H (.int (m : Int)) :=
  ⟨ev_op h ev_c (rv_ixL (sq_of x.hw) (atI_nat (j := 2) rfl)), ev_op h ev_c (rv_ixL (sq_of x.hw) (atI_nat (j := 0) rfl)), ev_op h ev_c (rv_ixL (sq_of x.hw) (atI_nat (j := 1) rfl))⟩
theorem pool_isW {H : Hp} {wd q : Addr} {c m room : Nat} (x : World3 H wd q c m room) : ∃ u, H wd = some u := ⟨_, x.hw⟩
theorem ok_block {f : Addr} {fd : FuncData} {k t : Nat} (F : Fun K "_law_block" "_law_block" s_law_block f fd) (z_range : mg "range" = none) (C_law_draw : Cal P w K mg base 1 "_law_draw" spDraw []) (C_law_statement : Cal P w K mg base k "_law_statement" (spStmt t) []) (hk : 1 ≤ k) :
    FnOk P w K mg base CX0 (k + 1) f fd ["pool", "world", "tier", "most"] (spBlk t) := by
  have sc := sc_law_block
  refine F.ok sc (fun vs H Q E h => ?_) (fun cdv A outer s H vs Q E hr h => ?_)
  · obtain ⟨p, q0, wd, c, m, room, most, rfl, _⟩ := h
    rfl
  · obtain ⟨p, q0, wd, c, m, room, most, rfl, ht, hmost, c1, c3, m1, m3, x, W, q⟩ := h
    refine ⟨_, (pss_cons (ps_set (i := 4) sc.nd rfl (by first | exact Or.inl rfl | exact Or.inr rfl) (pe_lst pa_nil))
      (pss_cons (ps_for PassesOwn.never rfl (pi_range1 (by rfl) z_range (pa_cons (pe_c C_law_draw hr (by omega) (by rfl) (pa_cons (pv 0) (pa_cons (pe_op op_add (pv 3) pe_int) pa_nil))) pa_nil)) (pg_name (i := 5) sc.nd rfl (by first | exact Or.inl rfl | exact Or.inr rfl))
      (pss_one (ps_if (pt_cmpR op_gt (pe_ix ix_list (pv 1) pe_int (fun _ _ => rfl)) pe_int (nomark _))
      (pss_cons (ps_asg (pe_op op_sub (pe_ix ix_list (pv 1) pe_int (fun _ _ => rfl)) pe_int) (pg_sub (pv 1) pe_int set_list))
      (pss_one (ps_expr (pe_bm PySem.F.plainAttrs_list PySem.F.slot_list_append PySem.F.type_list_append mt_append (pv 4) (pa_cons (pe_c C_law_statement hr (by omega) (by rfl) (pa_cons (pv 0) (pa_cons (pv 1) (pa_cons (pv 2) pa_nil)))) pa_nil)))))
      pss_nil)))
      (pss_one (ps_ret (pv 4))))), ?_⟩
    refine q_asgL (el_lst ea_nil (by decide)) fun F0 H1 nF e1 hF => ?_
    have x1 := x.ex e1
    have W1 := W.ex e1
    have Fp : F0 ≠ p := new_ne nF x.isP
    have Fq : F0 ≠ q0 := new_ne nF x.isQ
    have Fw : F0 ≠ wd := new_ne nF (pool_isW W)
    -- the loop's length is drawn
    refine ⟨.ref p, rfl, .int (most : Int), rfl, (most : Int), 1, rfl, rfl, p, q0, (most : Int) + 1, rfl, by omega, Nat.lt_of_le_of_lt (show ((most : Int) + 1).natAbs ≤ 4 by omega) (by decide), x1, fun z H2 z0 z1 o2 x2 => ⟨z, rfl, by omega, by omega, ?_⟩⟩
    have e12 : Oth2 p wd H H2 := (Oth2.of e1).trans (.one o2)
    refine for_range (lo := 0) (n := z.toNat) (g := gName 5) (D := { nx := tRet (tVar 4) { nx := fun _ H' => Q .non H', rt := Q }, rt := Q }) (fun i σ' H' => ∃ (b : List Stm) (y5 : Option V) (room' : Nat) (xs : List V), σ' = [some (.ref p), some (.ref wd), some (.int (t : Int)), some (.int (most : Int)), some (.ref F0), y5] ∧ okL c m b t ∧ b.length ≤ i ∧ room' + cntL b = room ∧ Oth2 p wd H H' ∧ Pool H' p q0 ∧ World3 H' wd q0 c m room' ∧ H' F0 = some (.lst xs) ∧ DqAll (fun a => New H a ∧ a ≠ F0) H' xs (toDs b))
      ⟨[], none, room, [], rfl, by rw [okL]; trivial, Nat.le_refl _, by rw [cntL]; rfl, e12, x2, W1.one x1 o2, o2 _ _ Fp hF, by rw [toDs]; exact .nil⟩ (fun i σ' H' hi hP => ?_) (fun σ' H' hP => ?_)
    · obtain ⟨b, y5, room', xs, rfl, hok, hlen, hroom, o, x', W', hF', hd⟩ := hP
      have i4 : i < 4 := by omega
      have lx : xs.length = b.length := by rw [dqa_len hd, toDs_len]
      refine s_when (et_test (ev_op (ev_w (ev_var rfl) W').1 ev_c rv_I0)) (fun hb H3 e3 => ?_) (fun hb H3 e3 => ?_)
      · have hpos : (0 : Int) < (room' : Int) := of_decide_eq_true hb
        obtain ⟨r1, rfl⟩ : ∃ r1, room' = r1 + 1 := ⟨room' - 1, by omega⟩
        have x3 := x'.ex e3
        have W3 := W'.ex e3
        have wp := W3.nep x3
        refine q_setL (j := 2) (v := .int (r1 : Int)) W3.hw (ev_is (ev_op (ev_w (ev_var rfl) W3).1 ev_c rv_I0) (congrArg V.int (by omega))) (ev_var rfl) ev_c (by show 2 < 3; decide) fun H4 e4 => ?_
        have x4 : Pool (upd H4 wd (.lst [.int (c : Int), .int (m : Int), .int (r1 : Int)])) p q0 := (x3.ex e4).upd wp W3.ne
        have W4 : World3 (upd H4 wd (.lst [.int (c : Int), .int (m : Int), .int (r1 : Int)])) wd q0 c m r1 := ⟨upd_same, W3.ne⟩
        have o4 : Oth2 p wd H (upd H4 wd (.lst [.int (c : Int), .int (m : Int), .int (r1 : Int)])) := fun a u n1 n2 ha => by
          rw [upd_ne n2]
          exact e4 _ _ (e3 _ _ (o a u n1 n2 ha))
        have hF4 : (upd H4 wd (.lst [.int (c : Int), .int (m : Int), .int (r1 : Int)])) F0 = some (.lst xs) := by
          rw [upd_ne Fw]
          exact e4 _ _ (e3 _ _ hF')
        have hd4 : DqAll (fun a => New H a ∧ a ≠ F0) (upd H4 wd (.lst [.int (c : Int), .int (m : Int), .int (r1 : Int)])) xs (toDs b) := dqa_to (fun _ h => h) (fun a u n ha => by
          rw [upd_ne (new_ne n.1 (pool_isW W))]
          exact e4 _ _ (e3 _ _ ha)) _ _ hd
        refine ⟨.ref F0, rfl, .inl ⟨rfl, _, sq_of hF4⟩, .ref p, rfl, .ref wd, rfl, .int (t : Int), rfl, p, q0, wd, c, m, r1, rfl, ht, c1, c3, m1, m3, x4, W4, fun s v r2 H6 oks hc o6 x6 W6 dq => ?_⟩
        have hF6 := o6 _ _ Fp Fw hF4
        refine ⟨F0, xs, v, rfl, rfl, hF6, sz_lt (by omega), b ++ [s], _, r2, xs ++ [v], rfl, okL_app hok (by rw [okL, okL]; exact ⟨oks, trivial⟩), by simp; omega, ?_, fun a u n1 n2 ha => ?_, x6.upd Fp Fq, ⟨by rw [upd_ne Fw.symm]; exact W6.hw, W6.ne⟩, upd_same, ?_⟩
        · rw [cntL_app, cntL, cntL]; omega
        · rw [upd_ne (ne_of_none ha nF)]
          exact o6 _ _ n1 n2 (o4 _ _ n1 n2 ha)
        · rw [toDs_app]
          refine dqa_app (dqa_to (fun _ h => h) (fun a u n ha => ?_) _ _ hd4) ?_
          · rw [upd_ne n.2]
            exact o6 _ _ (new_ne n.1 x.isP) (new_ne n.1 (pool_isW W)) ha
          · rw [toDs, toDs]
            exact .cons (dq_to (fun a n => ⟨new_back2 o4 x4.isP (pool_isW W4) n, new_ne n ⟨_, hF4⟩⟩) (fun a u n ha => by rw [upd_ne (new_ne n ⟨_, hF4⟩)]; exact ha) _ _ dq) .nil
      · exact ⟨b, _, room', xs, rfl, hok, by omega, hroom, o.trans (.of e3), x'.ex e3, W'.ex e3, e3 _ _ hF', dqa_to (fun _ h => h) (fun a u n ha => e3 _ _ ha) _ _ hd⟩
    · obtain ⟨b, y5, room', xs, rfl, hok, hlen, hroom, o, x', W', hF', hd⟩ := hP
      refine s_ret (ev_var rfl) fun H3 e3 => q b (.ref F0) room' H3 hok (by omega) hroom (o.trans (.of e3)) (x'.ex e3) (W'.ex e3) (.lst nF (e3 _ _ hF') (dqa_to (fun _ h => h.1) (fun a u n ha => e3 _ _ ha) _ _ hd))
theorem dq_later {p wd : Addr} {H Hk H' H'' : Hp} {v : V} {d : PyData} (hp : ∃ u, Hk p = some u) (hw : ∃ u, Hk wd = some u) (o0 : Oth2 p wd H Hk) (o : Oth2 p wd H' H'') (x : Dq (New Hk) H' v d) : Dq (New H) H'' v d :=
  dq_to (fun _ n => new_back2 o0 hp hw n) (fun a u n ha => o _ _ (new_ne n hp) (new_ne n hw) ha) _ _ x
theorem new_later {p wd : Addr} {H Hk : Hp} {a : Addr} (hp : ∃ u, Hk p = some u) (hw : ∃ u, Hk wd = some u) (o0 : Oth2 p wd H Hk) (n : Hk a = none) : New H a := new_back2 o0 hp hw n
theorem ok_statement {f : Addr} {fd : FuncData} {k t : Nat} (F : Fun K "_law_statement" "_law_statement" s_law_statement f fd) (C_law_draw : Cal P w K mg base 1 "_law_draw" spDraw []) (C_law_row : Cal P w K mg base 2 "_law_row" spRow []) (C_law_command : Cal P w K mg base 3 "_law_command" spCmd [])
    (C_law_some_cells : Cal P w K mg base 2 "_law_some_cells" spCells []) (C_law_block : Cal P w K mg base k "_law_block" (spBlk (t + 1)) []) (hk : 3 ≤ k) : FnOk P w K mg base CX0 (k + 1) f fd ["pool", "world", "tier"] (spStmt t) := by
  have sc := sc_law_statement
  refine F.ok sc (fun vs H Q E h => ?_) (fun cdv A outer s H vs Q E hr h => ?_)
  · obtain ⟨p, q0, wd, c, m, room, rfl, _⟩ := h
    rfl
  · obtain ⟨p, q0, wd, c, m, room, rfl, ht, c1, c3, m1, m3, x, W, q⟩ := h
    refine ⟨_, (pss_cons (ps_set (i := 3) sc.nd rfl (by first | exact Or.inl rfl | exact Or.inr rfl) (pe_c C_law_draw hr (by omega) (by rfl) (pa_cons (pv 0) (pa_cons pe_int pa_nil))))
      (pss_cons (ps_set (i := 4) sc.nd rfl (by first | exact Or.inl rfl | exact Or.inr rfl) (pe_ix ix_list (pv 1) pe_int (fun _ _ => rfl)))
      (pss_cons (ps_if (pt_cmpR op_eq (pv 3) pe_int (nomark _))
      (pss_one (ps_ret (pe_tup (pa_cons pe_str (pa_cons (pe_c C_law_draw hr (by omega) (by rfl) (pa_cons (pv 0) (pa_cons pe_int pa_nil))) pa_nil)))))
      pss_nil)
      (pss_cons (ps_if (PW.pt (pw_or (pt_cmpR op_lt (pv 3) pe_int (nomark _)) (pw_or1 (pt_cmpR op_gt (pv 2) pe_int (nomark _)))))
      (pss_one (ps_ret (pe_c C_law_command hr (by omega) (by rfl) (pa_cons (pv 0) (pa_cons (pv 4) pa_nil)))))
      pss_nil)
      (pss_cons (ps_if (pt_cmpR op_eq (pv 3) pe_int (nomark _))
      (pss_cons (ps_set (i := 8) sc.nd rfl (by first | exact Or.inl rfl | exact Or.inr rfl) (pe_c C_law_some_cells hr (by omega) (by rfl) (pa_cons (pv 0) (pa_cons (pv 4) pa_nil))))
      (pss_one (ps_ret (pe_tup (pa_cons pe_str (pa_cons (pv 8) (pa_cons (pe_c C_law_block hr (by omega) (by rfl) (pa_cons (pv 0) (pa_cons (pv 1) (pa_cons (pe_op op_add (pv 2) pe_int) (pa_cons pe_int pa_nil))))) pa_nil)))))))
      pss_nil)
      (pss_cons (ps_if (pt_cmpR op_eq (pv 3) pe_int (nomark _))
      (pss_cons (ps_set (i := 7) sc.nd rfl (by first | exact Or.inl rfl | exact Or.inr rfl) (pe_c C_law_block hr (by omega) (by rfl) (pa_cons (pv 0) (pa_cons (pv 1) (pa_cons (pe_op op_add (pv 2) pe_int) (pa_cons pe_int pa_nil))))))
      (pss_one (ps_ret (pe_tup (pa_cons pe_str (pa_cons (pv 7) (pa_cons (pe_c C_law_block hr (by omega) (by rfl) (pa_cons (pv 0) (pa_cons (pv 1) (pa_cons (pe_op op_add (pv 2) pe_int) (pa_cons pe_int pa_nil))))) pa_nil)))))))
      pss_nil)
      (pss_cons (ps_if (pt_cmpR op_eq (pv 3) pe_int (nomark _))
      (pss_one (ps_ret (pe_tup (pa_cons pe_str (pa_cons (pe_c C_law_block hr (by omega) (by rfl) (pa_cons (pv 0) (pa_cons (pv 1) (pa_cons (pe_op op_add (pv 2) pe_int) (pa_cons pe_int pa_nil))))) pa_nil)))))
      pss_nil)
      (pss_cons (ps_set (i := 5) sc.nd rfl (by first | exact Or.inl rfl | exact Or.inr rfl) (pe_c C_law_draw hr (by omega) (by rfl) (pa_cons (pv 0) (pa_cons (pe_ix ix_list (pv 1) pe_int (fun _ _ => rfl)) pa_nil))))
      (pss_cons (ps_set (i := 6) sc.nd rfl (by first | exact Or.inl rfl | exact Or.inr rfl) (pe_c C_law_row hr (by omega) (by rfl) (pa_cons (pv 0) (pa_cons (pv 4) pa_nil))))
      (pss_cons (ps_set (i := 7) sc.nd rfl (by first | exact Or.inl rfl | exact Or.inr rfl) (pe_c C_law_block hr (by omega) (by rfl) (pa_cons (pv 0) (pa_cons (pv 1) (pa_cons (pe_op op_add (pv 2) pe_int) (pa_cons pe_int pa_nil))))))
      (pss_one (ps_ret (pe_tup (pa_cons pe_str (pa_cons (pv 5) (pa_cons (pv 6) (pa_cons (pe_lst (pa_cons (pv 7) (pa_cons (pe_c C_law_block hr (by omega) (by rfl) (pa_cons (pv 0) (pa_cons (pv 1) (pa_cons (pe_op op_add (pv 2) pe_int) (pa_cons pe_int pa_nil))))) pa_nil))) pa_nil))))))))))))))))), ?_⟩
    refine q_run ?_
    refine ⟨.ref p, rfl, p, q0, 10, rfl, by decide, by decide, x, fun kind H1 k0 k10 o1 x1 => ?_⟩
    have W1 := W.one x o1
    refine q_asg (ev_w (ev_var rfl) W1).2.1 fun H2 e2 => ?_
    have x2 := x1.ex e2
    have W2 := W1.ex e2
    have o2 : Oth2 p wd H H2 := (Oth2.one o1).trans (.of e2)
    -- end
    refine q_when (et_test (ev_op (ev_var rfl) ev_c (rv_eq rfl))) (fun _ H3 e3 => ?_) (fun hk4 H3 e3 => ?_)
    · have x3 := x2.ex e3
      have W3 := W2.ex e3
      refine ⟨.ref p, rfl, p, q0, 2, rfl, by decide, by decide, x3, fun z H4 z0 z1 o4 x4 => ⟨by show 2 ≤ sizeLine; decide, fun T nT => ?_⟩⟩
      have o34 : Oth2 p wd H H4 := (o2.trans (.of e3)).trans (.one o4)
      have W4 := W3.one x3 o4
      obtain ⟨zz, rfl⟩ : ∃ zz : Nat, z = (zz : Int) := ⟨z.toNat, by omega⟩
      refine q (.fin zz) _ room _ (by rw [okS]; omega) (by rw [cnt]) (o34.trans (.of (Ex.new nT))) (x4.ex (Ex.new nT)) (W4.ex (Ex.new nT)) ?_
      rw [toD]
      exact .tup (new_later x4.isP (pool_isW W4) o34 nT) upd_same (.cons (.str _) (.cons (.int _) .nil))
    have x3 := x2.ex e3
    have W3 := W2.ex e3
    have o3 := o2.trans (.of e3)
    -- a command
    refine q_when (et_or (et_test (ev_op (ev_var rfl) ev_c rv_I0)) fun _ => et_test (ev_op (ev_var rfl) ev_c rv_I0)) (fun _ H4 e4 => ?_) (fun hkt H4 e4 => ?_)
    · have x4 := x3.ex e4
      have W4 := W3.ex e4
      have o4 := o3.trans (.of e4)
      refine ⟨.ref p, rfl, .int (c : Int), rfl, p, q0, c, rfl, c1, c3, x4, fun s v H5 hs o5 x5 dq => ?_⟩
      exact q s v room H5 (isCmd_ok hs).1 (by rw [(isCmd_ok (m := m) (lv := t) hs).2]) (o4.trans (.one o5)) x5 (W4.one x4 o5) (dq_to (fun a n => new_later x4.isP (pool_isW W4) o4 n) (fun _ _ _ h => h) _ _ dq)
    have x4 := x3.ex e4
    have W4 := W3.ex e4
    have o4 := o3.trans (.of e4)
    have ht2 : t ≤ 2 := by
      have := (Bool.or_eq_false_iff.mp hkt).2
      have := of_decide_eq_false this
      omega
    have ht3 : t + 1 ≤ 3 := by omega
    have lt3 : t < 3 := by omega
    -- keep
    refine q_when (et_test (ev_op (ev_var rfl) ev_c (rv_eq rfl))) (fun _ H5 e5 => ?_) (fun hk5 H5 e5 => ?_)
    · have x5 := x4.ex e5
      have W5 := W4.ex e5
      have o5 := o4.trans (.of e5)
      refine q_run ?_
      refine ⟨.ref p, rfl, .int (c : Int), rfl, p, q0, c, rfl, c3, x5, fun cs L H6 hcs nL o6 x6 hL => ?_⟩
      have W6 := W5.one x5 o6
      have o56 := o5.trans (.one o6)
      have nL0 : New H L := new_later x5.isP (pool_isW W5) o5 nL
      refine ⟨.ref L, rfl, .ref p, rfl, .ref wd, rfl, .int (t : Int), rfl, (t : Int), 1, rfl, rfl, p, q0, wd, c, m, room, 3, rfl, ht3, by omega, c1, c3, m1, m3, x6, W6, fun b v r7 H7 hb hlb hc o7 x7 W7 dq => ⟨by show 3 ≤ sizeLine; decide, fun T nT => ?_⟩⟩
      have o8 := o56.trans o7
      have eT := Ex.new (o := .tup [.str "keep", .ref L, v]) nT
      refine q (.keep cs b) _ r7 _ (by rw [okS]; exact ⟨lt3, hcs, by omega, hb⟩) (by rw [cnt]; omega) (o8.trans (.of eT)) (x7.ex eT) (W7.ex eT) ?_
      rw [toD]
      exact .tup (new_later x7.isP (pool_isW W7) o8 nT) upd_same (.cons (.str _) (.cons (dq_LI nL0 (eT _ _ (o7 _ _ (new_ne nL0 x.isP) (new_ne nL0 (pool_isW W)) hL))) (.cons (dq_later x6.isP (pool_isW W6) o56 (.of eT) dq) .nil)))
    have x5 := x4.ex e5
    have W5 := W4.ex e5
    have o5 := o4.trans (.of e5)
    -- either
    refine q_when (et_test (ev_op (ev_var rfl) ev_c (rv_eq rfl))) (fun _ H6 e6 => ?_) (fun hk6 H6 e6 => ?_)
    · have x6 := x5.ex e6
      have W6 := W5.ex e6
      have o6 := o5.trans (.of e6)
      refine q_run ?_
      refine ⟨.ref p, rfl, .ref wd, rfl, .int (t : Int), rfl, (t : Int), 1, rfl, rfl, p, q0, wd, c, m, room, 3, rfl, ht3, by omega, c1, c3, m1, m3, x6, W6, fun a va r7 H7 ha hla hca o7 x7 W7 dqa => ?_⟩
      have o67 := o6.trans o7
      refine ⟨va, rfl, .ref p, rfl, .ref wd, rfl, .int (t : Int), rfl, (t : Int), 1, rfl, rfl, p, q0, wd, c, m, r7, 3, rfl, ht3, by omega, c1, c3, m1, m3, x7, W7, fun b vb r8 H8 hb hlb hcb o8 x8 W8 dqb => ⟨by show 3 ≤ sizeLine; decide, fun T nT => ?_⟩⟩
      have o68 := o67.trans o8
      have eT := Ex.new (o := .tup [.str "either", va, vb]) nT
      refine q (.either a b) _ r8 _ (by rw [okS]; exact ⟨lt3, by omega, ha, by omega, hb⟩) (by rw [cnt]; omega) (o68.trans (.of eT)) (x8.ex eT) (W8.ex eT) ?_
      rw [toD]
      exact .tup (new_later x8.isP (pool_isW W8) o68 nT) upd_same (.cons (.str _) (.cons (dq_later x6.isP (pool_isW W6) o6 (o8.trans (.of eT)) dqa) (.cons (dq_later x7.isP (pool_isW W7) o67 (.of eT) dqb) .nil)))
    have x6 := x5.ex e6
    have W6 := W5.ex e6
    have o6 := o5.trans (.of e6)
    -- again
    refine q_when (et_test (ev_op (ev_var rfl) ev_c (rv_eq rfl))) (fun _ H7 e7 => ?_) (fun hk7 H7 e7 => ?_)
    · have x7 := x6.ex e7
      have W7 := W6.ex e7
      have o7 := o6.trans (.of e7)
      refine ⟨.ref p, rfl, .ref wd, rfl, .int (t : Int), rfl, (t : Int), 1, rfl, rfl, p, q0, wd, c, m, room, 3, rfl, ht3, by omega, c1, c3, m1, m3, x7, W7, fun b v r8 H8 hb hlb hc o8 x8 W8 dq => ⟨by show 2 ≤ sizeLine; decide, fun T nT => ?_⟩⟩
      have o78 := o7.trans o8
      have eT := Ex.new (o := .tup [.str "again", v]) nT
      refine q (.again b) _ r8 _ (by rw [okS]; exact ⟨lt3, by omega, hb⟩) (by rw [cnt]; omega) (o78.trans (.of eT)) (x8.ex eT) (W8.ex eT) ?_
      rw [toD]
      exact .tup (new_later x8.isP (pool_isW W8) o78 nT) upd_same (.cons (.str _) (.cons (dq_later x7.isP (pool_isW W7) o7 (.of eT) dq) .nil))
    have x7 := x6.ex e7
    have W7 := W6.ex e7
    have o7 := o6.trans (.of e7)
    -- call
    refine q_run ?_
    refine ⟨.ref p, rfl, .ref wd, rfl, wd, _, 1, .int (m : Int), rfl, rfl, sq_of W7.hw, atI_nat (j := 1) rfl, p, q0, (m : Int), rfl, by omega, Nat.lt_of_le_of_lt (show (m : Int).natAbs ≤ 4 by omega) (by decide), x7, fun pr H8 p0 pm o8 x8 => ?_⟩
    have W8 := W7.one x7 o8
    have o78 := o7.trans (.one o8)
    refine q_run ?_
    refine ⟨.ref p, rfl, .int (c : Int), rfl, p, q0, c, rfl, c3, x8, fun r L H9 hrr nL o9 x9 hL => ?_⟩
    have W9 := W8.one x8 o9
    have o79 := o78.trans (.one o9)
    have nL0 : New H L := new_later x8.isP (pool_isW W8) o78 nL
    refine q_run ?_
    refine ⟨.ref p, rfl, .ref wd, rfl, .int (t : Int), rfl, (t : Int), 1, rfl, rfl, p, q0, wd, c, m, room, 2, rfl, ht3, by omega, c1, c3, m1, m3, x9, W9, fun a va r10 H10 ha hla hca o10 x10 W10 dqa => ?_⟩
    have o710 := o79.trans o10
    obtain ⟨pp, rfl⟩ : ∃ pp : Nat, pr = (pp : Int) := ⟨pr.toNat, by omega⟩
    refine ⟨.int (pp : Int), rfl, .ref L, rfl, va, rfl, .ref p, rfl, .ref wd, rfl, .int (t : Int), rfl, (t : Int), 1, rfl, rfl, p, q0, wd, c, m, r10, 2, rfl, ht3, by omega, c1, c3, m1, m3, x10, W10, fun b vb r11 H11 hb hlb hcb o11 x11 W11 dqb => ⟨by show 2 ≤ sizeLine; decide, fun B nB => ⟨by show 4 ≤ sizeLine; decide, fun T nT => ?_⟩⟩⟩
    have o711 := o710.trans o11
    have eB := Ex.new (o := .lst [va, vb]) nB
    have eT := Ex.new (o := .tup [.str "call", .int (pp : Int), .ref L, .ref B]) nT
    have eBT := eB.trans eT
    have nB0 : New H B := new_later x11.isP (pool_isW W11) o711 nB
    refine q (.call pp r a b) _ r11 _ (by rw [okS]; exact ⟨lt3, by omega, hrr, by omega, ha, by omega, hb⟩) (by rw [cnt]; omega) (o711.trans (.of eBT)) (x11.ex eBT) (W11.ex eBT) ?_
    rw [toD]
    refine .tup (new_later (x11.ex eB).isP (pool_isW (W11.ex eB)) (o711.trans (.of eB)) nT) upd_same (.cons (.str _) (.cons (.int _) (.cons (dq_LI nL0 (eBT _ _ (o11 _ _ (new_ne nL0 x.isP) (new_ne nL0 (pool_isW W)) (o10 _ _ (new_ne nL0 x.isP) (new_ne nL0 (pool_isW W)) hL)))) (.cons ?_ .nil))))
    exact .lst nB0 (eT _ _ upd_same) (.cons (dq_later x9.isP (pool_isW W9) o79 (o11.trans (.of eBT)) dqa) (.cons (dq_later x10.isP (pool_isW W10) o710 (.of eBT) dqb) .nil))
end
/-- the body of a procedure -/
def okB (c m : Nat) (b : List Stm) : Prop := okL c m b 0 ∧ b.length ≤ 8 ∧ cntL b ≤ 12
def bD (b : List Stm) : PyData := .list (toDs b)
def toB (bs : List (List Stm)) : PyData := .list (bs.map bD)
section
variable {P : Program} {w : World} {K : PySem.W.Frag} {mg : Str → Option Value} {base : Heap}
/-- statements and blocks at every level -/
theorem gen_levels {fS fB : Addr} {fdS fdB : FuncData} (FS : Fun K "_law_statement" "_law_statement" s_law_statement fS fdS) (FB : Fun K "_law_block" "_law_block" s_law_block fB fdB) (gS : mg "_law_statement" = some (.ref fS)) (gB : mg "_law_block" = some (.ref fB))
    (bS : Binds K fdS ["pool", "world", "tier"] []) (bB : Binds K fdB ["pool", "world", "tier", "most"] []) (z_range : mg "range" = none) (C_law_draw : Cal P w K mg base 1 "_law_draw" spDraw []) (C_law_row : Cal P w K mg base 2 "_law_row" spRow []) (C_law_command : Cal P w K mg base 3 "_law_command" spCmd [])
    (C_law_some_cells : Cal P w K mg base 2 "_law_some_cells" spCells []) : ∀ j t, j + t = 4 → Cal P w K mg base (3 + 2 * j) "_law_block" (spBlk t) [] ∧ ∀ t', t' + 1 = t → Cal P w K mg base (3 + 2 * j + 1) "_law_statement" (spStmt t') []
  | 0, t, h => by
    have e : t = 4 := by omega
    subst e
    have B : Cal P w K mg base (3 + 2 * 0) "_law_block" (spBlk 4) [] := ⟨fB, fdB, ["pool", "world", "tier", "most"], [], ⟨fun _ _ _ _ h => by obtain ⟨_, _, _, _, _, _, _, _, h, _⟩ := h; omega, fun _ _ _ _ _ _ _ _ _ _ _ _ _ h => by obtain ⟨_, _, _, _, _, _, _, _, h, _⟩ := h; omega⟩, gB, FB.kp, bB, .nil⟩
    refine ⟨B, fun t' e => ?_⟩
    have : t' = 3 := by omega
    subst this
    exact ⟨fS, fdS, _, [], ok_statement FS C_law_draw C_law_row C_law_command C_law_some_cells B (by decide), gS, FS.kp, bS, .nil⟩
  | j + 1, t, h => by
    obtain ⟨_, hS⟩ := gen_levels FS FB gS gB bS bB z_range C_law_draw C_law_row C_law_command C_law_some_cells j (t + 1) (by omega)
    have S := hS t rfl
    have B : Cal P w K mg base (3 + 2 * (j + 1)) "_law_block" (spBlk t) [] := ⟨fB, fdB, _, [], ok_block (k := 3 + 2 * j + 1) FB z_range C_law_draw S (by omega), gB, FB.kp, bB, .nil⟩
    refine ⟨B, fun t' e => ?_⟩
    subst e
    exact ⟨fS, fdS, _, [], ok_statement FS C_law_draw C_law_row C_law_command C_law_some_cells B (by omega), gS, FS.kp, bS, .nil⟩
def spBodyR (tt : Nat) : Sp := fun vs H Q _ => ∃ (p q : Addr) (c m rm : Nat), vs = [.ref p, .int (c : Int), .int (m : Int), .int (rm : Int), .int (tt : Int)] ∧ 1 ≤ rm ∧ rm ≤ 12 ∧ 1 ≤ c ∧ c ≤ 3 ∧ 1 ≤ m ∧ m ≤ 3 ∧ Pool H p q ∧
  ∀ (b : List Stm) (v : V) (H' : Hp), okL c m b tt → b.length ≤ 4 → b ≠ [] → cntL b ≤ rm → Oth p H H' → Pool H' p q → Dq (New H) H' v (bD b) → Q v H'
theorem ok_bodyR {f : Addr} {fd : FuncData} {k tt : Nat} (ht : tt ≤ 3) (F : Fun K "_law_body" "_law_body" s_law_body f fd) (C_law_statement : Cal P w K mg base 10 "_law_statement" (spStmt tt) []) (C_law_block : Cal P w K mg base 11 "_law_block" (spBlk tt) []) (hk : 11 ≤ k) :
    FnOk P w K mg base CX0 (k + 1) f fd ["pool", "cells", "many", "room", "tier"] (spBodyR tt) := by
  have sc := sc_law_body
  refine F.ok sc (fun vs H Q E h => ?_) (fun cdv A outer s H vs Q E hr h => ?_)
  · obtain ⟨p, q0, c, m, rm, rfl, _⟩ := h
    rfl
  · obtain ⟨p, q0, c, m, rm, rfl, r1, r12, c1, c3, m1, m3, x, q⟩ := h
    refine ⟨_, (pss_cons (ps_set (i := 5) sc.nd rfl (by first | exact Or.inl rfl | exact Or.inr rfl) (pe_lst (pa_cons (pv 1) (pa_cons (pv 2) (pa_cons (pe_op op_sub (pv 3) pe_int) pa_nil)))))
      (pss_cons (ps_set (i := 6) sc.nd rfl (by first | exact Or.inl rfl | exact Or.inr rfl) (pe_lst (pa_cons (pe_c C_law_statement hr (by omega) (by rfl) (pa_cons (pv 0) (pa_cons (pv 5) (pa_cons (pv 4) pa_nil)))) pa_nil)))
      (pss_one (ps_ret (pe_op op_cat (pv 6) (pe_c C_law_block hr (by omega) (by rfl) (pa_cons (pv 0) (pa_cons (pv 5) (pa_cons (pv 4) (pa_cons pe_int pa_nil)))))))))), ?_⟩
    refine q_asgL (el_lst (ea_cons (ev_var rfl) (ea_cons (ev_var rfl) (ea_cons (ev_is (ev_op (ev_var rfl) ev_c rv_I0) (show V.int ((rm : Int) - 1) = V.int ((rm - 1 : Nat) : Int) from congrArg V.int (by omega))) ea_nil))) (by show 3 ≤ 100000; decide)) fun wd H1 nw e1 hw => ?_
    have x1 := x.ex e1
    have W1 : World3 H1 wd q0 c m (rm - 1) := ⟨hw, new_ne nw x.isQ⟩
    have wp : wd ≠ p := new_ne nw x.isP
    have o1 : Oth2 p wd H H1 := .of e1
    -- body = [statement]
    refine q_run ?_
    refine ⟨.ref p, rfl, .ref wd, rfl, .int (tt : Int), rfl, p, q0, wd, c, m, rm - 1, rfl, ht, c1, c3, m1, m3, x1, W1, fun s v r2 H2 oks hc o2 x2 W2 dq => ⟨by show 1 ≤ sizeLine; decide, fun B nB => ?_⟩⟩
    have o12 := o1.trans o2
    have eB := Ex.new (o := .lst [v]) nB
    have x3 := x2.ex eB
    have W3 := W2.ex eB
    have o13 := o12.trans (.of eB)
    have nB0 : New H B := new_later x2.isP (pool_isW W2) o12 nB
    refine ⟨.ref B, rfl, .ref p, rfl, .ref wd, rfl, .int (tt : Int), rfl, p, q0, wd, c, m, r2, 3, rfl, ht, by decide, c1, c3, m1, m3, x3, W3, fun b vb r4 H4 hb hlb hcb o4 x4 W4 dqb => ?_⟩
    have hB4 := o4 _ _ (new_ne nB0 x.isP) (new_ne nB ⟨_, W2.hw⟩) upd_same
    have dq4 : Dq (New H) H4 v (toD s) := dq_later x1.isP (pool_isW W1) o1 ((Oth2.of eB).trans o4) dq
    cases dqb with
    | @lst L xs ds nL hL hds =>
      have lxs : xs.length = b.length := by rw [dqa_len hds, toDs_len]
      refine ⟨B, L, [v], xs, rfl, rfl, hB4, hL, ?_, fun R nR => ?_⟩
      · have := small1000 (n := [v].length + xs.length) (by rw [lxs, List.length_singleton]; omega)
        exact Nat.le_of_lt this
      · have eR := Ex.new (o := .lst ([v] ++ xs)) nR
        have o14 := o13.trans o4
        have nR0 : New H R := new_later x4.isP (pool_isW W4) o14 nR
        refine q (s :: b) _ _ (by rw [okL]; exact ⟨oks, hb⟩) (by rw [List.length_cons]; omega) (fun z => (nomatch z)) (by rw [cntL]; omega) (fun a u na ha => ?_) (x4.ex eR) ?_
        · exact eR _ _ (o14 _ _ na (ne_of_none ha nw) ha)
        · rw [bD, toDs]
          exact .lst nR0 upd_same (.cons (dq_to (fun _ h => h) (fun a u _ ha => eR _ _ ha) _ _ dq4) (dqa_to (fun a n => new_later x3.isP (pool_isW W3) o13 n) (fun a u _ ha => eR _ _ ha) _ _ hds))
end
/-! ### copies -/
section
variable {K : PySem.W.Frag} {σ : L2.St} {H : Hp} {te tl : TE}
theorem cb_1 {r : List V → Hp → VK → Prop} {Q : VK} (h : te σ H fun x H1 => r [x] H1 Q) : tCB r (tCons te tNil) σ H Q := h
/-- te gives a copy of the item -/
def CpAt (te : TE) (σ : L2.St) (H : Hp) (d : PyData) : Prop := ∀ H1, Ex H H1 → ∀ Q : VK, (∀ v' H2, Ex H1 H2 → Dq (New H1) H2 v' d → Q v' H2) → te σ H1 Q
def CpOut (H1 : Hp) (ds : List PyData) (Q : VK) : Prop := ∀ D ys H2, H1 D = none → Ex H1 H2 → H2 D = some (.lst ys) → DqAll (fun a => New H1 a ∧ a ≠ D) H2 ys ds → Q (.ref D) H2
theorem new_ex {H H1 : Hp} {a : Addr} (e : Ex H H1) (h : New H1 a) : New H a := fresh_back e h
theorem dqa_at {N : Addr → Prop} : ∀ {vs : List V} {ds : List PyData} {i : Nat} {v : V}, DqAll N H vs ds → vs[i]? = some v → ∃ d, ds[i]? = some d ∧ Dq N H v d
  | _, _, i, v, .nil, h => by simp at h
  | _, _, 0, v, .cons a _, h => ⟨_, rfl, by have := Option.some.inj h; subst this; exact a⟩
  | _, _, i + 1, v, .cons _ b, h => by
    obtain ⟨d, h1, h2⟩ := dqa_at (i := i) b (by simpa using h)
    exact ⟨d, by simpa using h1, h2⟩
theorem dpa_at2 : ∀ {vs : List V} {ds : List PyData} {i : Nat} {v : V}, DpAll K H vs ds → vs[i]? = some v → ∃ d, ds[i]? = some d ∧ Dp K H v d
  | _, _, i, v, .nil, h => by simp at h
  | _, _, 0, v, .cons a _, h => ⟨_, rfl, by have := Option.some.inj h; subst this; exact a⟩
  | _, _, i + 1, v, .cons _ b, h => by
    obtain ⟨d, h1, h2⟩ := dpa_at2 (i := i) b (by simpa using h)
    exact ⟨d, by simpa using h1, h2⟩
/-- one turn -/
theorem copy_turn {H1 H' : Hp} {D : Addr} {ys : List V} {ds : List PyData} {i : Nat} {d : PyData} {σ' : L2.St} {Nx : Hp → Prop} (hD : H1 D = none) (e : Ex H1 H') (hD' : H' D = some (.lst ys)) (hd : DqAll (fun a => New H1 a ∧ a ≠ D) H' ys (ds.take i)) (hl : ds.length ≤ 10000) (hi : ds[i]? = some d)
    (hc : CpAt te σ' H' d) (k : ∀ ys2 H2, Ex H1 H2 → H2 D = some (.lst ys2) → DqAll (fun a => New H1 a ∧ a ≠ D) H2 ys2 (ds.take (i + 1)) → Nx H2) :
    te σ' H' fun y H4 => ∃ acc, H4 D = some (.lst acc) ∧ acc.length < sizeLine ∧ Nx (upd H4 D (.lst (acc ++ [y]))) := by
  refine hc H' (Ex.refl _) _ fun v' H2 e2 dq => ⟨ys, e2 _ _ hD', ?_, k (ys ++ [v']) _ ((e.trans e2).mut hD) upd_same ?_⟩
  · rw [dqa_len hd, List.length_take]; exact sz_lt (by omega)
  · rw [List.take_add_one, hi]
    refine dqa_app (dqa_to (fun _ h => h) (fun a u n ha => by rw [upd_ne n.2]; exact e2 _ _ ha) _ _ hd) (.cons (dq_to (fun a n => ⟨new_ex e n, new_ne n ⟨_, hD'⟩⟩) (fun a u n ha => by rw [upd_ne (new_ne n ⟨_, hD'⟩)]; exact ha) _ _ dq) .nil)
theorem lc_copyL {a : Addr} {xs : List V} {ds : List PyData} {j : Nat} {vs : List Nat} (h : Ev tl σ H (.ref a)) (hs : SqL K H a xs) (hlen : xs.length = ds.length) (hl : ds.length ≤ 10000) (hw : ∀ x, wipe ((wipe σ vs).set j (some x)) vs = wipe σ vs)
    (hc : ∀ (i : Nat) (v : V) (d : PyData), xs[i]? = some v → ds[i]? = some d → CpAt te ((wipe σ vs).set j (some v)) H d) {Q : VK} (k : CpOut H ds Q) : tLc (iList K tl) (gName j) tYes te vs σ H Q :=
  h H (Ex.refl H) _ fun H1 e1 => ⟨a, rfl, ⟨xs, ex_l e1 hs⟩, fun D hD =>
    lc_list (xs := xs) (fun i H' => ∃ ys, Ex H1 H' ∧ H' D = some (.lst ys) ∧ DqAll (fun a => New H1 a ∧ a ≠ D) H' ys (ds.take i)) ⟨[], Ex.new hD, upd_same, .nil⟩ (fun i H' _ p => by
        obtain ⟨ys, e, _⟩ := p
        exact ex_l (e1.trans e) hs) (fun i x H' hi p => ⟨hw x, by
        obtain ⟨ys, e, hd, dq⟩ := p
        have hi2 : i < ds.length := by have := (List.getElem?_eq_some_iff.mp hi).1; omega
        have hdi := List.getElem?_eq_getElem hi2
        show te _ _ _
        exact copy_turn (Nx := fun H' => ∃ ys, Ex H1 H' ∧ H' D = some (.lst ys) ∧ DqAll (fun a => New H1 a ∧ a ≠ D) H' ys (ds.take (i + 1))) hD e hd dq hl hdi (fun H2 e2 => hc i x _ hi hdi H2 ((e1.trans e).trans e2)) fun ys2 H2 a b c => ⟨ys2, a, b, c⟩⟩)
      (fun H' p => by
        obtain ⟨ys, e, hd, dq⟩ := p
        rw [List.take_of_length_le (by omega)] at dq
        exact k D ys H' (fresh_back e1 hD) (e1.trans e) hd (dqa_to (fun a n => ⟨new_ex e1 n.1, n.2⟩) (fun _ _ _ h => h) _ _ dq))⟩
theorem lc_copyT {a : Addr} {xs : List V} {ds : List PyData} {j : Nat} {vs : List Nat} (h : Ev tl σ H (.ref a)) (hs : SqT K H a xs) (hlen : xs.length = ds.length) (hl : ds.length ≤ 10000) (hw : ∀ x, wipe ((wipe σ vs).set j (some x)) vs = wipe σ vs)
    (hc : ∀ (i : Nat) (v : V) (d : PyData), xs[i]? = some v → ds[i]? = some d → CpAt te ((wipe σ vs).set j (some v)) H d) {Q : VK} (k : CpOut H ds Q) : tLc (iTup K tl) (gName j) tYes te vs σ H Q :=
  h H (Ex.refl H) _ fun H1 e1 => ⟨a, rfl, ⟨xs, ex_t e1 hs⟩, fun D hD =>
    lc_tup (xs := xs) (fun i H' => ∃ ys, Ex H1 H' ∧ H' D = some (.lst ys) ∧ DqAll (fun a => New H1 a ∧ a ≠ D) H' ys (ds.take i)) ⟨[], Ex.new hD, upd_same, .nil⟩ (fun i H' _ p => by
        obtain ⟨ys, e, _⟩ := p
        exact ex_t (e1.trans e) hs) (fun i x H' hi p => ⟨hw x, by
        obtain ⟨ys, e, hd, dq⟩ := p
        have hi2 : i < ds.length := by have := (List.getElem?_eq_some_iff.mp hi).1; omega
        have hdi := List.getElem?_eq_getElem hi2
        show te _ _ _
        exact copy_turn (Nx := fun H' => ∃ ys, Ex H1 H' ∧ H' D = some (.lst ys) ∧ DqAll (fun a => New H1 a ∧ a ≠ D) H' ys (ds.take (i + 1))) hD e hd dq hl hdi (fun H2 e2 => hc i x _ hi hdi H2 ((e1.trans e).trans e2)) fun ys2 H2 a b c => ⟨ys2, a, b, c⟩⟩)
      (fun H' p => by
        obtain ⟨ys, e, hd, dq⟩ := p
        rw [List.take_of_length_le (by omega)] at dq
        exact k D ys H' (fresh_back e1 hD) (e1.trans e) hd (dqa_to (fun a n => ⟨new_ex e1 n.1, n.2⟩) (fun _ _ _ h => h) _ _ dq))⟩
/-- a copy of data at most n - 1 deep -/
def spCopy (K : PySem.W.Frag) (n : Nat) : Sp := fun vs H Q _ => ∃ (v : V) (d : PyData) (m : Nat), vs = [v] ∧ n = m + 1 ∧ Dp K H v d ∧ fit d m = true ∧ ∀ v' H', Ex H H' → Dq (New H) H' v' d → Q v' H'
theorem cp_call {E : XK} {ti : TE} {n m : Nat} {v : V} {d : PyData} (hn : n = m + 1) (h : Ev ti σ H v) (hd : Dp K H v d) (hf : fit d m = true) : CpAt (tCall (spCopy K n) [] E (tCons ti tNil)) σ H d := fun H1 e Q q =>
  h H1 e _ fun H2 e2 => ⟨v, d, m, rfl, hn, dp_ex (e.trans e2) d v hd, hf, fun v' H3 e3 dq => q v' H3 (e2.trans e3) (dq_to (fun a n => new_ex e2 n) (fun _ _ _ h => h) _ _ dq)⟩
theorem flat_dq {v : V} {d : PyData} {N : Addr → Prop} (h : Dp K H v d) (h1 : isa d "list" = false) (h2 : isa d "tuple" = false) : Dq N H v d := by
  rw [isa_list] at h1
  rw [isa_tuple] at h2
  cases h with
  | non => exact .non
  | bl b => exact .bl b
  | int i => exact .int i
  | str x => exact .str x
  | lst _ _ => cases h1
  | tup _ _ => cases h2
end
abbrev scopied : Stmt := topS 8
theorem sccopied : FnScope ["value", "item", "key", "worth"] ["value"] (defScope scopied) := ⟨rfl, rfl, rfl, by decide +kernel, rfl, by decide +kernel, by decide +kernel⟩
section
variable {P : Program} {w : World} {K : PySem.W.Frag} {mg : Str → Option Value} {base : Heap}
theorem isa_list_t {H : Hp} {v : V} {d : PyData} (h : Dp K H v d) (hl : isa d "list" = true) : ∃ a xs ds, v = .ref a ∧ d = .list ds ∧ SqL K H a xs ∧ DpAll K H xs ds := by
  rw [isa_list] at hl
  cases h with
  | lst s a => exact ⟨_, _, _, rfl, rfl, s, a⟩
  | _ => cases hl
theorem isa_tuple_t {H : Hp} {v : V} {d : PyData} (h : Dp K H v d) (hl : isa d "tuple" = true) : ∃ a xs ds, v = .ref a ∧ d = .tuple ds ∧ SqT K H a xs ∧ DpAll K H xs ds := by
  rw [isa_tuple] at hl
  cases h with
  | tup s a => exact ⟨_, _, _, rfl, rfl, s, a⟩
  | _ => cases hl
theorem kd_all : ∀ t ∈ ["NoneType", "bool", "int", "str", "list", "tuple"], kitB t "dict" = some false := by
  decide +kernel
theorem kd_dict {H : Hp} {v : V} {d : PyData} (h : Dp K H v d) : kitB (tyn d) "dict" = some false := by
  refine kd_all _ ?_
  cases h <;> simp [tyn]
theorem copied_step {f : Addr} {fd : FuncData} {n : Nat} (F : Fun K "copied" "copied" scopied f fd) (z_isinstance : mg "isinstance" = none) (z_list : mg "list" = none) (z_tuple : mg "tuple" = none) (z_dict : mg "dict" = none) (Ccopied : Cal P w K mg base n "copied" (spCopy K n) []) :
    FnOk P w K mg base CX0 (n + 1) f fd ["value"] (spCopy K (n + 1)) := by
  have sc := sccopied
  refine F.ok sc (fun vs H Q E h => ?_) (fun cdv A outer s H vs Q E hr h => ?_)
  · obtain ⟨v, d, m, rfl, _⟩ := h
    rfl
  · obtain ⟨v, d, n', rfl, en, hv, hf, q⟩ := h
    obtain rfl : n' = n := by omega
    refine ⟨_, (pss_cons (ps_if (pt_val (pe_callB call_isi (by rfl) z_isinstance (by decide +kernel) (pa_cons (pv 0) (pa_cons (pe_bltn (v := .ty "list") (by rfl) z_list (by decide +kernel) rfl) pa_nil))))
      (pss_one (ps_ret (pe_lc (own := [("item", 1)]) (by rfl) sc.nd (pi_list (pv 0)) (blkOk_by (own := [("item", 1)]) (N := ["value", "item", "key", "worth"]) (sc := defScope scopied) (by decide +kernel)) (fun _ _ _ _ _ => (pg_name (i := 1) sc.nd rfl (by first | exact Or.inl rfl | exact Or.inr rfl))) (fun _ _ _ _ _ => pts_nil) (fun _ _ _ _ _ => (pe_c Ccopied hr (by omega) (by rfl) (pa_cons (pv 1) pa_nil))))))
      pss_nil)
      (pss_cons (ps_if (pt_val (pe_callB call_isi (by rfl) z_isinstance (by decide +kernel) (pa_cons (pv 0) (pa_cons (pe_bltn (v := .ty "tuple") (by rfl) z_tuple (by decide +kernel) rfl) pa_nil))))
      (pss_one (ps_ret (pe_callTy call_tuple_of (by rfl) z_tuple (by decide +kernel) (pa_cons (pe_lc (own := [("item", 1)]) (by rfl) sc.nd (pi_tup (pv 0)) (blkOk_by (own := [("item", 1)]) (N := ["value", "item", "key", "worth"]) (sc := defScope scopied) (by decide +kernel)) (fun _ _ _ _ _ => (pg_name (i := 1) sc.nd rfl (by first | exact Or.inl rfl | exact Or.inr rfl))) (fun _ _ _ _ _ => pts_nil) (fun _ _ _ _ _ => (pe_c Ccopied hr (by omega) (by rfl) (pa_cons (pv 1) pa_nil)))) pa_nil))))
      pss_nil)
      (pss_cons (ps_if (pt_val (pe_callB call_isi (by rfl) z_isinstance (by decide +kernel) (pa_cons (pv 0) (pa_cons (pe_bltn (v := .ty "dict") (by rfl) z_dict (by decide +kernel) rfl) pa_nil))))
      (pss_one ps_never)
      pss_nil)
      (pss_one (ps_ret (pv 0)))))), ?_⟩
    have kd := kitB_isa d
    refine q_when (et_B (ev_isi hv (ev_var rfl) kd.2.2.2.1)) (fun hb H1 e1 => ?_) (fun hb H1 e1 => ?_)
    · obtain ⟨a, xs, ds, rfl, rfl, hs, hx⟩ := isa_list_t hv hb
      obtain ⟨m, em, lx, gx⟩ := fit_list hf
      have hs1 := ex_l e1 hs
      have hx1 := dpa_ex e1 ds _ hx
      have lxs := dpa_len hx1
      refine s_retR (lc_copyL (ev_var rfl) hs1 lxs lx (fun _ => rfl) (fun i v d hv hd => ?_) fun D ys H2 nD e2 hD dq => ?_)
      · obtain ⟨d', hd', p⟩ := dpa_at2 hx1 hv
        have : d' = d := Option.some.inj (hd'.symm.trans hd)
        subst this
        exact cp_call em (ev_var rfl) p (fitAll_mem gx (List.mem_of_getElem? hd))
      · exact q _ _ (e1.trans e2) (.lst (new_ex e1 nD) hD (dqa_to (fun a n => new_ex e1 n.1) (fun _ _ _ h => h) _ _ dq))
    refine q_when (et_B (ev_isi (dp_ex e1 _ _ hv) (ev_var rfl) kd.2.2.2.2)) (fun hc H2 e2 => ?_) (fun hc H2 e2 => ?_)
    · have e12 := e1.trans e2
      obtain ⟨a, xs, ds, rfl, rfl, hs, hx⟩ := isa_tuple_t hv hc
      obtain ⟨m, em, lx, gx⟩ := fit_tuple hf
      have hs1 := ex_t e12 hs
      have hx1 := dpa_ex e12 ds _ hx
      have lxs := dpa_len hx1
      refine s_retR (cb_1 ?_)
      refine lc_copyT (ev_var rfl) hs1 lxs lx (fun _ => rfl) (fun i v d hv hd => ?_) fun D ys H3 nD e3 hD dq => ?_
      · obtain ⟨d', hd', p⟩ := dpa_at2 hx1 hv
        have : d' = d := Option.some.inj (hd'.symm.trans hd)
        subst this
        exact cp_call em (ev_var rfl) p (fitAll_mem gx (List.mem_of_getElem? hd))
      · refine ⟨D, ys, rfl, .inl ⟨sq_of hD, fun T nT => ?_⟩⟩
        have eT := Ex.new (o := .tup ys) nT
        exact q _ _ ((e12.trans e3).trans eT) (.tup (new_ex (e12.trans e3) nT) upd_same (dqa_to (fun a n => new_ex e12 n.1) (fun a u _ ha => eT _ _ ha) _ _ dq))
    · have e12 := e1.trans e2
      refine q_when (b := false) (et_B (ev_isi (dp_ex e12 _ _ hv) (ev_var rfl) (kd_dict hv))) (fun h => (nomatch h)) fun _ H3 e3 => ?_
      have e13 := e12.trans e3
      refine s_ret (ev_var rfl) fun H4 e4 => q _ _ (e13.trans e4) (flat_dq (dp_ex (e13.trans e4) _ _ hv) hb hc)
theorem ok_copied {f : Addr} {fd : FuncData} (F : Fun K "copied" "copied" scopied f fd) (g : mg "copied" = some (.ref f)) (b : Binds K fd ["value"] []) (z_isinstance : mg "isinstance" = none) (z_list : mg "list" = none) (z_tuple : mg "tuple" = none) (z_dict : mg "dict" = none) : ∀ n, FnOk P w K mg base CX0 n f fd ["value"] (spCopy K n)
  | 0 => ⟨fun _ _ _ _ ⟨_, _, _, _, h, _⟩ => (nomatch h), fun _ _ _ _ _ _ _ _ _ _ _ _ _ ⟨_, _, _, _, h, _⟩ => (nomatch h)⟩
  | n + 1 => copied_step F z_isinstance z_list z_tuple z_dict ⟨f, fd, _, [], ok_copied F g b z_isinstance z_list z_tuple z_dict n, g, F.kp, b, .nil⟩
end
/-! ### what the program's tests of kinds say -/
def isIntD : PyData → Bool
  | .int _ => true
  | _ => false
def btw (lo hi : Int) : PyData → Bool
  | .int i => decide (lo ≤ i) && decide (i ≤ hi)
  | _ => false
/-- each less than the next -/
def up : List PyData → Bool
  | .int i :: .int j :: r => decide (i < j) && up (.int j :: r)
  | _ => true
def cellsD (c : Nat) : PyData → Bool
  | .list ds => ds.all (btw 0 ((c : Int) - 1)) && up ds
  | _ => false
def rowD (c : Nat) : PyData → Bool
  | .list ds => decide (ds.length = c + 2) && ds.all (btw (-9) 9)
  | _ => false
def listD : PyData → Bool
  | .list _ => true
  | _ => false
def pairD : PyData → Bool
  | .list [a, b] => listD a && listD b
  | _ => false
def szOf (x : Str) : Option Nat :=
  if x = "set" then some 3 else if x = "carry" then some 2 else if x = "keep" then some 3 else if x = "either" then some 3 else if x = "again" then some 2 else if x = "call" then some 4 else if x = "end" then some 2 else none
def sizedD : PyData → Bool
  | .tuple (.str x :: r) => decide (szOf x = some (r.length + 1))
  | _ => false
def stmD (c m : Nat) : PyData → Bool
  | .tuple [.str x, a] => if x = "carry" then rowD c a else if x = "again" then listD a else if x = "end" then btw 0 1 a else false
  | .tuple [.str x, a, b] => if x = "set" then btw 0 ((c : Int) - 1) a && rowD c b else if x = "keep" then cellsD c a && listD b else if x = "either" then listD a && listD b else false
  | .tuple [.str x, a, b, d] => if x = "call" then btw 0 ((m : Int) - 1) a && (rowD c b && pairD d) else false
  | _ => false
def blocksD : PyData → List PyData
  | .tuple [.str x, a] => if x = "again" then [a] else []
  | .tuple [.str x, a, b] => if x = "keep" then [b] else if x = "either" then [a, b] else []
  | .tuple [.str x, _, _, .list [a, b]] => if x = "call" then [a, b] else []
  | _ => []
abbrev sis_integer : Stmt := topS 2
theorem scis_integer : FnScope ["value"] ["value"] (defScope sis_integer) := ⟨rfl, rfl, rfl, by decide +kernel, rfl, by decide +kernel, by decide +kernel⟩
abbrev sis_between : Stmt := topS 3
theorem scis_between : FnScope ["value", "low", "high"] ["value", "low", "high"] (defScope sis_between) := ⟨rfl, rfl, rfl, by decide +kernel, rfl, by decide +kernel, by decide +kernel⟩
abbrev sis_bit : Stmt := topS 4
theorem scis_bit : FnScope ["value"] ["value"] (defScope sis_bit) := ⟨rfl, rfl, rfl, by decide +kernel, rfl, by decide +kernel, by decide +kernel⟩
abbrev sis_index : Stmt := topS 5
theorem scis_index : FnScope ["value", "many"] ["value", "many"] (defScope sis_index) := ⟨rfl, rfl, rfl, by decide +kernel, rfl, by decide +kernel, by decide +kernel⟩
abbrev sis_cell_list : Stmt := topS 6
theorem scis_cell_list : FnScope ["value", "cells", "one", "other", "cell"] ["value", "cells"] (defScope sis_cell_list) := ⟨rfl, rfl, rfl, by decide +kernel, rfl, by decide +kernel, by decide +kernel⟩
abbrev sis_row : Stmt := topS 34
theorem scis_row : FnScope ["value", "cells", "item"] ["value", "cells"] (defScope sis_row) := ⟨rfl, rfl, rfl, by decide +kernel, rfl, by decide +kernel, by decide +kernel⟩
abbrev sis_block_pair : Stmt := topS 35
theorem scis_block_pair : FnScope ["value"] ["value"] (defScope sis_block_pair) := ⟨rfl, rfl, rfl, by decide +kernel, rfl, by decide +kernel, by decide +kernel⟩
abbrev sis_sized : Stmt := topS 36
theorem scis_sized : FnScope ["value"] ["value"] (defScope sis_sized) := ⟨rfl, rfl, rfl, by decide +kernel, rfl, by decide +kernel, by decide +kernel⟩
abbrev sis_statement : Stmt := topS 37
theorem scis_statement : FnScope ["value", "cells", "procedures", "word"] ["value", "cells", "procedures"] (defScope sis_statement) := ⟨rfl, rfl, rfl, by decide +kernel, rfl, by decide +kernel, by decide +kernel⟩
abbrev sblocks_of : Stmt := topS 38
theorem scblocks_of : FnScope ["statement", "word"] ["statement"] (defScope sblocks_of) := ⟨rfl, rfl, rfl, by decide +kernel, rfl, by decide +kernel, by decide +kernel⟩
section
variable {P : Program} {w : World} {K : PySem.W.Frag} {mg : Str → Option Value} {base : Heap} {σ : L2.St} {H : Hp}
/-- a test of one value, and ints beside it -/
def spT (K : PySem.W.Frag) (ns : List Int) (f : PyData → Bool) : Sp := fun vs H Q _ => ∃ (v : V) (d : PyData), vs = v :: ns.map V.int ∧ Dp K H v d ∧ ∀ H', Ex H H' → Q (.bl (f d)) H'
def spInt (K : PySem.W.Frag) : Sp := fun vs H Q _ => ∃ (v : V) (d : PyData), vs = [v] ∧ Dp K H v d ∧ ∀ H', Ex H H' → Q (.bl (isIntD d)) H'
def spBtw (K : PySem.W.Frag) : Sp := fun vs H Q _ => ∃ (v : V) (d : PyData) (lo hi : Int), vs = [v, .int lo, .int hi] ∧ Dp K H v d ∧ ∀ H', Ex H H' → Q (.bl (btw lo hi d)) H'
def spBit (K : PySem.W.Frag) : Sp := fun vs H Q _ => ∃ (v : V) (d : PyData), vs = [v] ∧ Dp K H v d ∧ ∀ H', Ex H H' → Q (.bl (btw 0 1 d)) H'
def spIx (K : PySem.W.Frag) : Sp := fun vs H Q _ => ∃ (v : V) (d : PyData) (n : Int), vs = [v, .int n] ∧ Dp K H v d ∧ ∀ H', Ex H H' → Q (.bl (btw 0 (n - 1) d)) H'
theorem ev_spInt {te : TE} {E : XK} {v : V} {d : PyData} (h : Ev te σ H v) (hd : Dp K H v d) : Ev (tCall (spInt K) [] E (tCons te tNil)) σ H (.bl (isIntD d)) :=
  ev_call (ea_cons h ea_nil) fun H1 e Q q _ => ⟨v, d, rfl, dp_ex e d v hd, q⟩
theorem ev_spBtw {te t1 t2 : TE} {E : XK} {v : V} {d : PyData} {lo hi : Int} (h : Ev te σ H v) (h1 : Ev t1 σ H (.int lo)) (h2 : Ev t2 σ H (.int hi)) (hd : Dp K H v d) : Ev (tCall (spBtw K) [] E (tCons te (tCons t1 (tCons t2 tNil)))) σ H (.bl (btw lo hi d)) :=
  ev_call (ea_cons h (ea_cons h1 (ea_cons h2 ea_nil))) fun H1 e Q q _ => ⟨v, d, lo, hi, rfl, dp_ex e d v hd, q⟩
theorem ev_spBit {te : TE} {E : XK} {v : V} {d : PyData} (h : Ev te σ H v) (hd : Dp K H v d) : Ev (tCall (spBit K) [] E (tCons te tNil)) σ H (.bl (btw 0 1 d)) :=
  ev_call (ea_cons h ea_nil) fun H1 e Q q _ => ⟨v, d, rfl, dp_ex e d v hd, q⟩
theorem ev_spIx {te t1 : TE} {E : XK} {v : V} {d : PyData} {n : Int} (h : Ev te σ H v) (h1 : Ev t1 σ H (.int n)) (hd : Dp K H v d) : Ev (tCall (spIx K) [] E (tCons te (tCons t1 tNil))) σ H (.bl (btw 0 (n - 1) d)) :=
  ev_call (ea_cons h (ea_cons h1 ea_nil)) fun H1 e Q q _ => ⟨v, d, n, rfl, dp_ex e d v hd, q⟩
theorem ev_chain {r r' : R2} {ta tb tc : TE} {x y z : V} {a b : Bool} (h1 : Ev ta σ H x) (h2 : Ev tb σ H y) (hr : RV r x y H (.bl a)) (h3 : a = true → Ev tc σ H z ∧ RV r' y z H (.bl b)) : Ev (tChain r r' ta tb tc) σ H (.bl (a && b)) := fun H1 e Q q =>
  h1 H1 e _ fun H2 e2 => h2 H2 (e.trans e2) _ fun H3 e3 => hr H3 ((e.trans e2).trans e3) _ fun H4 e4 => ⟨a, rfl, by
    have e14 := ((e2.trans e3).trans e4)
    cases a with
    | true =>
      obtain ⟨k1, k2⟩ := h3 rfl
      show tc σ H4 _
      exact k1 H4 (e.trans e14) _ fun H5 e5 => k2 H5 (e.trans (e14.trans e5)) Q fun H6 e6 => q H6 ((e14.trans e5).trans e6)
    | false =>
      show Q (.bl false) H4
      exact q H4 e14⟩
theorem ok_is_integer {f : Addr} {fd : FuncData} {k : Nat} (F : Fun K "is_integer" "is_integer" sis_integer f fd) (z_isinstance : mg "isinstance" = none) (z_int : mg "int" = none) (z_bool : mg "bool" = none) : FnOk P w K mg base CX0 (k + 1) f fd ["value"] (spInt K) := by
  have sc := scis_integer
  refine F.ok sc (fun vs H Q E h => ?_) (fun cdv A outer s H vs Q E hr h => ?_)
  · obtain ⟨v, d, rfl, _⟩ := h
    rfl
  · obtain ⟨v, d, rfl, hd, q⟩ := h
    refine ⟨_, (pss_one (ps_ret (pe_and (pe_callB call_isi (by rfl) z_isinstance (by decide +kernel) (pa_cons (pv 0) (pa_cons (pe_bltn (v := .ty "int") (by rfl) z_int (by decide +kernel) rfl) pa_nil))) (pe_one (pe_not (pe_callB call_isi (by rfl) z_isinstance (by decide +kernel) (pa_cons (pv 0) (pa_cons (pe_bltn (v := .ty "bool") (by rfl) z_bool (by decide +kernel) rfl) pa_nil)))))))), ?_⟩
    have kd := kitB_isa d
    refine s_ret (ev_andV (ev_isi hd (ev_var rfl) kd.2.1) fun _ => ev_notV (ev_isi hd (ev_var rfl) kd.1)) fun H1 e1 => ?_
    have z : (isa d "int" && !isa d "bool") = isIntD d := by
      rw [isa_int, isa_bool]
      cases d <;> rfl
    rw [z]
    exact q H1 e1
theorem isInt_v {v : V} {d : PyData} (h : Dp K H v d) (hi : isIntD d = true) : ∃ i, v = .int i ∧ d = .int i := by
  cases h with
  | int i => exact ⟨i, rfl, rfl⟩
  | _ => cases hi
theorem btw_no {d : PyData} (lo hi : Int) (h : isIntD d = false) : btw lo hi d = false := by
  cases d <;> first | rfl | cases h
theorem ok_is_between {f : Addr} {fd : FuncData} {k : Nat} (F : Fun K "is_between" "is_between" sis_between f fd) (Cis_integer : Cal P w K mg base 1 "is_integer" (spInt K) []) (hk : 1 ≤ k) : FnOk P w K mg base CX0 (k + 1) f fd ["value", "low", "high"] (spBtw K) := by
  have sc := scis_between
  refine F.ok sc (fun vs H Q E h => ?_) (fun cdv A outer s H vs Q E hr h => ?_)
  · obtain ⟨v, d, lo, hi, rfl, _⟩ := h
    rfl
  · obtain ⟨v, d, lo, hi, rfl, hd, q⟩ := h
    refine ⟨_, (pss_one (ps_ret (pe_and (pe_c Cis_integer hr (by omega) (by rfl) (pa_cons (pv 0) pa_nil)) (pe_one (pe_chain op_le op_le (pv 1) (pv 0) (pv 2)))))), ?_⟩
    have z : (isIntD d && btw lo hi d) = btw lo hi d := by
      cases d <;> rfl
    rw [← z] at q
    cases hb : isIntD d with
    | false =>
      rw [hb] at q
      exact s_ret (ev_andV (a := false) (ev_is (ev_spInt (ev_var rfl) hd) (by rw [hb])) fun h => (nomatch h)) fun H1 e1 => q H1 e1
    | true =>
      obtain ⟨i, rfl, rfl⟩ := isInt_v hd hb
      exact s_ret (ev_andV (a := true) (b := decide (lo ≤ i) && decide (i ≤ hi)) (ev_spInt (ev_var rfl) hd) fun _ => ev_chain (ev_var rfl) (ev_var rfl) rv_I0 fun _ => ⟨ev_var rfl, rv_I0⟩) fun H1 e1 => q H1 e1
theorem ok_is_bit {f : Addr} {fd : FuncData} {k : Nat} (F : Fun K "is_bit" "is_bit" sis_bit f fd) (Cis_between : Cal P w K mg base 2 "is_between" (spBtw K) []) (hk : 2 ≤ k) : FnOk P w K mg base CX0 (k + 1) f fd ["value"] (spBit K) := by
  have sc := scis_bit
  refine F.ok sc (fun vs H Q E h => ?_) (fun cdv A outer s H vs Q E hr h => ?_)
  · obtain ⟨v, d, rfl, _⟩ := h
    rfl
  · obtain ⟨v, d, rfl, hd, q⟩ := h
    refine ⟨_, (pss_one (ps_ret (pe_c Cis_between hr (by omega) (by rfl) (pa_cons (pv 0) (pa_cons pe_int (pa_cons pe_int pa_nil)))))), ?_⟩
    exact s_ret (ev_spBtw (ev_var rfl) ev_c ev_c hd) fun H1 e1 => q H1 e1
theorem ok_is_index {f : Addr} {fd : FuncData} {k : Nat} (F : Fun K "is_index" "is_index" sis_index f fd) (Cis_between : Cal P w K mg base 2 "is_between" (spBtw K) []) (hk : 2 ≤ k) : FnOk P w K mg base CX0 (k + 1) f fd ["value", "many"] (spIx K) := by
  have sc := scis_index
  refine F.ok sc (fun vs H Q E h => ?_) (fun cdv A outer s H vs Q E hr h => ?_)
  · obtain ⟨v, d, n, rfl, _⟩ := h
    rfl
  · obtain ⟨v, d, n, rfl, hd, q⟩ := h
    refine ⟨_, (pss_one (ps_ret (pe_c Cis_between hr (by omega) (by rfl) (pa_cons (pv 0) (pa_cons pe_int (pa_cons (pe_op op_sub (pv 1) pe_int) pa_nil)))))), ?_⟩
    exact s_ret (ev_spBtw (ev_var rfl) ev_c (ev_op (ev_var rfl) ev_c rv_I0) hd) fun H1 e1 => q H1 e1
end
section
variable {P : Program} {w : World} {K : PySem.W.Frag} {mg : Str → Option Value} {base : Heap} {σ : L2.St} {H : Hp}
theorem ev_allN {te : TE} {bs : List Bool} (h : EvL te σ H (bs.map V.bl)) : Ev (tCB (rAll K) (tCons te tNil)) σ H (.bl (bs.all id)) := fun H1 e Q q =>
  h H1 e _ fun p H2 _ e2 h2 => ⟨p, bs, rfl, sq_of h2, q H2 e2⟩
/-- [f(x, ..) for x in xs], f a test -/
theorem el_tests {tl te : TE} {a : Addr} {xs : List V} {ds : List PyData} {j : Nat} {vs : List Nat} (p : PyData → Bool) (h : Ev tl σ H (.ref a)) (hs : SqL K H a xs) (hx : DpAll K H xs ds) (hl : ds.length ≤ 10000) (hw : ∀ x, wipe ((wipe σ vs).set j (some x)) vs = wipe σ vs)
    (he : ∀ (v : V) (d : PyData) H1, Ex H H1 → Dp K H1 v d → Ev te ((wipe σ vs).set j (some v)) H1 (.bl (p d))) : EvL (tLc (iList K tl) (gName j) tYes te vs) σ H ((ds.map p).map V.bl) := by
  have lxs := dpa_len hx
  refine el_is (el_lcL (fun _ => true) (fun i => .bl (p (ds.getD i .none))) h hs (by omega) hw (fun _ _ _ _ _ => et_yes) (fun i x H1 e1 hi _ => ?_)) ?_
  · have hi2 : i < ds.length := by have := (List.getElem?_eq_some_iff.mp hi).1; omega
    obtain ⟨v, h1, h2⟩ := dpa_at hx hi2
    have : v = x := Option.some.inj (h1.symm.trans hi)
    subst this
    exact he v _ H1 e1 (dp_ex e1 _ _ h2)
  · rw [given_all, lxs, List.map_map]
    refine List.ext_getElem (by simp) fun i h1 h2 => ?_
    have hi : i < ds.length := by simpa using h1
    simp only [List.getElem_map, List.getElem_range]
    rw [List.getD_eq_getElem?_getD, List.getElem?_eq_getElem hi]
    rfl
theorem all_map (p : PyData → Bool) (ds : List PyData) : (ds.map p).all id = ds.all p := by
  rw [List.all_map]; rfl
def spRw (K : PySem.W.Frag) : Sp := fun vs H Q _ => ∃ (v : V) (d : PyData) (c n : Nat), vs = [v, .int (c : Int)] ∧ Dp K H v d ∧ fit d n = true ∧ ∀ H', Ex H H' → Q (.bl (rowD c d)) H'
theorem ev_spRw {te t1 : TE} {E : XK} {v : V} {d : PyData} {c n : Nat} (h : Ev te σ H v) (h1 : Ev t1 σ H (.int (c : Int))) (hd : Dp K H v d) (hf : fit d n = true) : Ev (tCall (spRw K) [] E (tCons te (tCons t1 tNil))) σ H (.bl (rowD c d)) :=
  ev_call (ea_cons h (ea_cons h1 ea_nil)) fun H1 e Q q _ => ⟨v, d, c, n, rfl, dp_ex e d v hd, hf, q⟩
theorem rowD_list {c : Nat} {d : PyData} (h : isa d "list" = false) : rowD c d = false ∧ cellsD c d = false ∧ pairD d = false ∧ listD d = false := by
  rw [isa_list] at h
  cases d <;> first | exact ⟨rfl, rfl, rfl, rfl⟩ | cases h
theorem ok_is_row {f : Addr} {fd : FuncData} {k : Nat} {tk : Tok} (F : Fun K "is_row" "is_row" sis_row f fd) (z_isinstance : mg "isinstance" = none) (z_list : mg "list" = none) (z_len : mg "len" = none) (z_all : mg "all" = none) (c_ROW_LIMIT : mg "ROW_LIMIT" = some (.int 9 tk)) (Cis_between : Cal P w K mg base 2 "is_between" (spBtw K) []) (hk : 2 ≤ k) :
    FnOk P w K mg base CX0 (k + 1) f fd ["value", "cells"] (spRw K) := by
  have sc := scis_row
  refine F.ok sc (fun vs H Q E h => ?_) (fun cdv A outer s H vs Q E hr h => ?_)
  · obtain ⟨v, d, c, n, rfl, _⟩ := h
    rfl
  · obtain ⟨v, d, c, n, rfl, hd, hf, q⟩ := h
    refine ⟨_, (pss_cons (ps_if (PW.pt (pw_or (pt_not (pt_val (pe_callB call_isi (by rfl) z_isinstance (by decide +kernel) (pa_cons (pv 0) (pa_cons (pe_bltn (v := .ty "list") (by rfl) z_list (by decide +kernel) rfl) pa_nil))))) (pw_or1 (pt_cmpR op_ne (pe_callB call_len_seq (by rfl) z_len (by decide +kernel) (pa_cons (pv 0) pa_nil)) (pe_op op_add (pv 1) pe_int) (nomark _)))))
      (pss_one (ps_ret pe_bl))
      pss_nil)
      (pss_one (ps_ret (pe_callB (cr_all rfl) (by rfl) z_all (by decide +kernel) (pa_cons (pe_lc (own := [("item", 2)]) (by rfl) sc.nd (pi_list (pv 0)) (blkOk_by (own := [("item", 2)]) (N := ["value", "cells", "item"]) (sc := defScope sis_row) (by decide +kernel)) (fun _ _ _ _ _ => (pg_name (i := 2) sc.nd rfl (by first | exact Or.inl rfl | exact Or.inr rfl))) (fun _ _ _ _ _ => pts_nil) (fun _ _ _ _ _ => (pe_c Cis_between hr (by omega) (by rfl) (pa_cons (pv 2) (pa_cons (pe_un un_neg (pe_glob (v := .int 9) (by rfl) c_ROW_LIMIT ⟨_, rfl⟩)) (pa_cons (pe_glob (v := .int 9) (by rfl) c_ROW_LIMIT ⟨_, rfl⟩) pa_nil)))))) pa_nil))))), ?_⟩
    have kd := kitB_isa d
    cases hb : isa d "list" with
    | false =>
      refine q_when (b := true) (et_or (a := true) (b := false) (et_is (et_not (et_B (ev_isi hd (ev_var rfl) kd.2.2.2.1))) (by rw [hb]; rfl)) fun h => (nomatch h)) (fun _ H1 e1 => ?_) (fun h => (nomatch h))
      rw [(rowD_list (c := c) hb).1] at q
      exact s_ret ev_c fun H2 e2 => q H2 (e1.trans e2)
    | true =>
      obtain ⟨a, xs, ds, rfl, rfl, hs, hx⟩ := isa_list_t hd hb
      obtain ⟨m, em, lx, gx⟩ := fit_list hf
      have lxs := dpa_len hx
      refine q_when (et_or (a := false) (et_is (et_not (et_B (ev_isi hd (ev_var rfl) kd.2.2.2.1))) (by rw [hb]; rfl)) fun _ => et_test (ev_op (ev_lenS (ev_var rfl) (.inl hs)) (ev_op (ev_var rfl) ev_c rv_I0) (rv_ne rfl))) (fun hl H1 e1 => ?_) (fun hl H1 e1 => ?_)
      · refine s_ret ev_c fun H2 e2 => ?_
        have z : false = rowD c (.list ds) := by
          have : ds.length ≠ c + 2 := fun e => by
            rw [lxs, e, Int.natCast_add] at hl
            simp at hl
          rw [rowD, decide_eq_false this]; rfl
        rw [z]
        exact q H2 (e1.trans e2)
      · refine s_ret (ev_allN (el_tests (btw (-9) 9) (ev_var rfl) (ex_l e1 hs) (dpa_ex e1 ds _ hx) lx (fun _ => rfl) fun v d H2 e2 hv => ev_spBtw (ev_var rfl) (ev_un ev_c ru_neg) ev_c hv)) fun H2 e2 => ?_
        have z : (ds.map (btw (-9) 9)).all id = rowD c (.list ds) := by
          have : ds.length = c + 2 := by
            have h2 : V.int (xs.length : Int) = V.int ((c : Int) + 2) := of_decide_eq_true (by simpa using hl)
            have := V.int.inj h2
            omega
          rw [all_map, rowD, decide_eq_true this, Bool.true_and]
        rw [z]
        exact q H2 (e1.trans e2)
def spPair (K : PySem.W.Frag) : Sp := fun vs H Q _ => ∃ (v : V) (d : PyData), vs = [v] ∧ Dp K H v d ∧ ∀ H', Ex H H' → Q (.bl (pairD d)) H'
theorem listD_isa (d : PyData) : listD d = isa d "list" := by
  rw [isa_list]; cases d <;> rfl
theorem ok_is_block_pair {f : Addr} {fd : FuncData} {k : Nat} (F : Fun K "is_block_pair" "is_block_pair" sis_block_pair f fd) (z_isinstance : mg "isinstance" = none) (z_list : mg "list" = none) (z_len : mg "len" = none) : FnOk P w K mg base CX0 (k + 1) f fd ["value"] (spPair K) := by
  have sc := scis_block_pair
  refine F.ok sc (fun vs H Q E h => ?_) (fun cdv A outer s H vs Q E hr h => ?_)
  · obtain ⟨v, d, rfl, _⟩ := h
    rfl
  · obtain ⟨v, d, rfl, hd, q⟩ := h
    refine ⟨_, (pss_cons (ps_if (PW.pt (pw_or (pt_not (pt_val (pe_callB call_isi (by rfl) z_isinstance (by decide +kernel) (pa_cons (pv 0) (pa_cons (pe_bltn (v := .ty "list") (by rfl) z_list (by decide +kernel) rfl) pa_nil))))) (pw_or1 (pt_cmpR op_ne (pe_callB call_len_seq (by rfl) z_len (by decide +kernel) (pa_cons (pv 0) pa_nil)) pe_int (nomark _)))))
      (pss_one (ps_ret pe_bl))
      pss_nil)
      (pss_one (ps_ret (pe_and (pe_callB call_isi (by rfl) z_isinstance (by decide +kernel) (pa_cons (pe_ix ix_list (pv 0) pe_int (fun _ _ => rfl)) (pa_cons (pe_bltn (v := .ty "list") (by rfl) z_list (by decide +kernel) rfl) pa_nil))) (pe_one (pe_callB call_isi (by rfl) z_isinstance (by decide +kernel) (pa_cons (pe_ix ix_list (pv 0) pe_int (fun _ _ => rfl)) (pa_cons (pe_bltn (v := .ty "list") (by rfl) z_list (by decide +kernel) rfl) pa_nil)))))))), ?_⟩
    have kd := kitB_isa d
    cases hb : isa d "list" with
    | false =>
      refine q_when (b := true) (et_or (a := true) (b := false) (et_is (et_not (et_B (ev_isi hd (ev_var rfl) kd.2.2.2.1))) (by rw [hb]; rfl)) fun h => (nomatch h)) (fun _ H1 e1 => ?_) (fun h => (nomatch h))
      rw [(rowD_list (c := 0) hb).2.2.1] at q
      exact s_ret ev_c fun H2 e2 => q H2 (e1.trans e2)
    | true =>
      obtain ⟨a, xs, ds, rfl, rfl, hs, hx⟩ := isa_list_t hd hb
      have lxs := dpa_len hx
      refine q_when (et_or (a := false) (et_is (et_not (et_B (ev_isi hd (ev_var rfl) kd.2.2.2.1))) (by rw [hb]; rfl)) fun _ => et_test (ev_op (ev_lenS (ev_var rfl) (.inl hs)) ev_c (rv_ne rfl))) (fun hl H1 e1 => ?_) (fun hl H1 e1 => ?_)
      · refine s_ret ev_c fun H2 e2 => ?_
        have z : false = pairD (.list ds) := by
          match ds, lxs with
          | [], _ => rfl
          | [_], _ => rfl
          | [_, _], h => rw [h] at hl; simp at hl
          | _ :: _ :: _ :: _, _ => rfl
        rw [z]
        exact q H2 (e1.trans e2)
      · have h2 : V.int (xs.length : Int) = V.int 2 := of_decide_eq_true (by simpa using hl)
        have h3 := V.int.inj h2
        match ds, hx, lxs with
        | [], _, h => exact absurd (show xs.length = 0 from h) (by omega)
        | [_], _, h => exact absurd (show xs.length = 1 from h) (by omega)
        | _ :: _ :: _ :: r, _, h => exact absurd (show xs.length = r.length + 1 + 1 + 1 from h) (by omega)
        | [d1, d2], .cons (v := v1) p1 (.cons (v := v2) p2 .nil), _ =>
          have k1 := kitB_isa d1
          have k2 := kitB_isa d2
          refine s_ret (ev_andV (ev_isi (dp_ex e1 _ _ p1) (ev_op (ev_var rfl) ev_c (rv_ixL (ex_l e1 hs) (atI_nat (j := 0) rfl))) k1.2.2.2.1) fun _ => ev_isi (dp_ex e1 _ _ p2) (ev_op (ev_var rfl) ev_c (rv_ixL (ex_l e1 hs) (atI_nat (j := 1) rfl))) k2.2.2.2.1) fun H2 e2 => ?_
          rw [← listD_isa, ← listD_isa]
          exact q H2 (e1.trans e2)
end
section
variable {P : Program} {w : World} {K : PySem.W.Frag} {mg : Str → Option Value} {base : Heap} {σ : L2.St} {H : Hp}
/-- the written dict of sizes -/
structure Sizes (K : PySem.W.Frag) (w : World) (a : Addr) (es : Array DictEntry) (n : Nat) (ok : Str → Prop) : Prop where
  d : KDict K w a es n
  yes : ∀ x m, ok x → szOf x = some m → ∃ t, PySem.W.nsIn K a x = some (some (.int (m : Int) t))
  no : ∀ x, ok x → szOf x = none → PySem.W.nsIn K a x = some none
/-- the first word is a known one -/
def wordOk (ok : Str → Prop) : PyData → Prop
  | .tuple (.str x :: _) => ok x
  | _ => True
def spSized (K : PySem.W.Frag) (ok : Str → Prop) : Sp := fun vs H Q _ => ∃ (v : V) (d : PyData), vs = [v] ∧ Dp K H v d ∧ wordOk ok d ∧ ∀ H', Ex H H' → Q (.bl (sizedD d)) H'
theorem et_truT {a : Addr} {xs : List V} {te : TE} (h : Ev te σ H (.ref a)) (hs : SqT K H a xs) : EvT (fun σ H Q => te σ H fun x H' => ∃ k, TruV K x H' k ∧ Q k H') σ H (!xs.isEmpty) := fun H1 e Q q =>
  h H1 e _ fun H2 e2 => ⟨_, .inr (.inl ⟨xs, ex_t (e.trans e2) hs, rfl⟩), q H2 e2⟩
theorem et_truL {a : Addr} {xs : List V} {te : TE} (h : Ev te σ H (.ref a)) (hs : SqL K H a xs) : EvT (fun σ H Q => te σ H fun x H' => ∃ k, TruV K x H' k ∧ Q k H') σ H (!xs.isEmpty) := fun H1 e Q q =>
  h H1 e _ fun H2 e2 => ⟨_, .inl ⟨xs, ex_l (e.trans e2) hs, rfl⟩, q H2 e2⟩
theorem rv_notInKd {a : Addr} {x : Str} {r : Option Value} (h : PySem.W.nsIn K a x = some r) : RV (fun x y H Q => ∃ (z : Str) (r : Option Value), x = .str z ∧ y = .ref a ∧ PySem.W.nsIn K a z = some r ∧ Q (.bl (!r.isSome)) H) (.str x) (.ref a) H (.bl (!r.isSome)) :=
  rv_val fun _ _ _ q => ⟨x, r, rfl, rfl, h, q⟩
theorem sizedD_no {d : PyData} (h : isa d "tuple" = false) : sizedD d = false := by
  rw [isa_tuple] at h
  cases d <;> first | rfl | cases h
theorem ok_is_sized {f : Addr} {fd : FuncData} {k : Nat} {a_SIZES : Addr} {es : Array DictEntry} {en : Nat} {ok : Str → Prop} (F : Fun K "is_sized" "is_sized" sis_sized f fd) (z_isinstance : mg "isinstance" = none) (z_tuple : mg "tuple" = none) (z_str : mg "str" = none) (z_len : mg "len" = none)
    (c_SIZES : mg "SIZES" = some (.ref a_SIZES)) (S : Sizes K w a_SIZES es en ok) : FnOk P w K mg base CX0 (k + 1) f fd ["value"] (spSized K ok) := by
  have sc := scis_sized
  refine F.ok sc (fun vs H Q E h => ?_) (fun cdv A outer s H vs Q E hr h => ?_)
  · obtain ⟨v, d, rfl, _⟩ := h
    rfl
  · obtain ⟨v, d, rfl, hd, hw, q⟩ := h
    refine ⟨_, (pss_cons (ps_if (PW.pt (pw_or (pt_not (pt_val (pe_callB call_isi (by rfl) z_isinstance (by decide +kernel) (pa_cons (pv 0) (pa_cons (pe_bltn (v := .ty "tuple") (by rfl) z_tuple (by decide +kernel) rfl) pa_nil))))) (pw_or1 (pt_not (pt_truth (pv 0) (by intro _; rfl))))))
      (pss_one (ps_ret pe_bl))
      pss_nil)
      (pss_cons (ps_if (PW.pt (pw_or (pt_not (pt_val (pe_callB call_isi (by rfl) z_isinstance (by decide +kernel) (pa_cons (pe_ix ix_tup (pv 0) pe_int (fun _ _ => rfl)) (pa_cons (pe_bltn (v := .ty "str") (by rfl) z_str (by decide +kernel) rfl) pa_nil))))) (pw_or1 (pt_cmpR (op_notIn_kd S.d) (pe_ix ix_tup (pv 0) pe_int (fun _ _ => rfl)) (pe_glob (v := .ref a_SIZES) (by rfl) c_SIZES rfl) (by rfl)))))
      (pss_one (ps_ret pe_bl))
      pss_nil)
      (pss_one (ps_ret (pe_cmpR op_eq (pe_callB call_len_seq (by rfl) z_len (by decide +kernel) (pa_cons (pv 0) pa_nil)) (pe_ix ix_kdict (pe_glob (v := .ref a_SIZES) (by rfl) c_SIZES rfl) (pe_ix ix_tup (pv 0) pe_int (fun _ _ => rfl)) (fun _ _ => rfl)) (nomark _)))))), ?_⟩
    have kd := kitB_isa d
    cases hb : isa d "tuple" with
    | false =>
      refine q_when (b := true) (et_or (a := true) (b := false) (et_is (et_not (et_B (ev_isi hd (ev_var rfl) kd.2.2.2.2))) (by rw [hb]; rfl)) fun h => (nomatch h)) (fun _ H1 e1 => ?_) (fun h => (nomatch h))
      rw [sizedD_no hb] at q
      exact s_ret ev_c fun H2 e2 => q H2 (e1.trans e2)
    | true =>
      obtain ⟨a, xs, ds, rfl, rfl, hs, hx⟩ := isa_tuple_t hd hb
      have lxs := dpa_len hx
      refine q_when (et_or (a := false) (et_is (et_not (et_B (ev_isi hd (ev_var rfl) kd.2.2.2.2))) (by rw [hb]; rfl)) fun _ => et_not (et_truT (ev_var rfl) hs)) (fun hl H1 e1 => ?_) (fun hl H1 e1 => ?_)
      · have hx0 : xs = [] := by cases xs with
          | nil => rfl
          | cons _ _ => simp at hl
        have hd0 : ds = [] := by
          rw [hx0] at lxs
          exact List.length_eq_zero_iff.mp lxs.symm
        subst hd0
        exact s_ret ev_c fun H2 e2 => q H2 (e1.trans e2)
      · match ds, hx, lxs with
        | [], .nil, _ => simp at hl
        | d0 :: dr, .cons (v := v0) (vs := vr) p0 pr, lxs =>
          have k0 := kitB_isa d0
          have it : ∀ H2, Ex H H2 → Ev (tOp (rIxT K) (tVar 0) (tC (.int 0))) [some (V.ref a)] H2 v0 := fun H2 e2 => ev_op (ev_var rfl) ev_c (rv_ixT (ex_t e2 hs) (atI_nat (j := 0) rfl))
          cases hs0 : isa d0 "str" with
          | false =>
            refine q_when (b := true) (et_or (a := true) (b := false) (et_is (et_not (et_B (ev_isi (dp_ex e1 _ _ p0) (it _ e1) k0.2.2.1))) (by rw [hs0]; rfl)) fun h => (nomatch h)) (fun _ H2 e2 => ?_) (fun h => (nomatch h))
            have z : sizedD (.tuple (d0 :: dr)) = false := by
              rw [isa_str] at hs0
              cases d0 <;> first | rfl | cases hs0
            rw [z] at q
            exact s_ret ev_c fun H3 e3 => q H3 ((e1.trans e2).trans e3)
          | true =>
            obtain ⟨x, rfl, rfl⟩ : ∃ x, v0 = .str x ∧ d0 = .str x := by
              rw [isa_str] at hs0
              cases p0 <;> first | exact ⟨_, rfl, rfl⟩ | cases hs0
            have hwx : ok x := hw
            cases hz : szOf x with
            | none =>
              have hno := S.no x hwx hz
              refine q_when (et_or (a := false) (b := true) (et_is (et_not (et_B (ev_isi (dp_ex e1 _ _ p0) (it _ e1) k0.2.2.1))) (by rw [hs0]; rfl)) fun _ => et_test (ev_op (it _ e1) ev_c (rv_notInKd hno))) (fun _ H2 e2 => ?_) (fun h => (nomatch h))
              have z : sizedD (.tuple (.str x :: dr)) = false := by rw [sizedD, hz]; rfl
              rw [z] at q
              exact s_ret ev_c fun H3 e3 => q H3 ((e1.trans e2).trans e3)
            | some m =>
              obtain ⟨t, hyes⟩ := S.yes x m hwx hz
              refine q_when (et_or (a := false) (b := false) (et_is (et_not (et_B (ev_isi (dp_ex e1 _ _ p0) (it _ e1) k0.2.2.1))) (by rw [hs0]; rfl)) fun _ => et_test (ev_op (it _ e1) ev_c (rv_notInKd hyes))) (fun h => (nomatch h)) (fun _ H2 e2 => ?_)
              have e12 := e1.trans e2
              refine s_ret (ev_op (ev_lenS (ev_var rfl) (.inr (ex_t e12 hs))) (ev_op ev_c (it _ e12) (rv_val (z := .int (m : Int)) fun _ _ _ q => ⟨a_SIZES, x, .int (m : Int), rfl, rfl, ⟨es, en, _, S.d.at_, S.d.lit, hyes, ⟨t, rfl⟩⟩, q⟩)) (rv_eq rfl)) fun H3 e3 => ?_
              have z : decide (V.int ((V.str x :: vr).length : Int) = V.int (m : Int)) = sizedD (.tuple (.str x :: dr)) := by
                rw [sizedD, hz]
                have l2 : (V.str x :: vr).length = dr.length + 1 := lxs
                rw [l2]
                by_cases e : m = dr.length + 1
                · rw [e, decide_eq_true rfl, decide_eq_true rfl]
                · rw [decide_eq_false fun h => e (by have := V.int.inj h; omega), decide_eq_false fun h => e (Option.some.inj h)]
              rw [z]
              exact q H3 (e12.trans e3)
end
/-! ### a tuple as a comprehension's target -/
section
variable {X : Cx}
theorem pg_tupK {K : PySem.W.Frag} {es : List Expr} {n k : Nat} {pos : Pos} {t : TGs} (hK : X.K = K) (hc : X.calm = true) (h : PGs X es t)
    (hn : (assignEach es X.env).length = n := by rfl) (hst : (assignEach es X.env).findIdx? (·.1) = none := by rfl) : PG X (.Tuple es k pos) (gTup K n t) := by
  subst hK
  exact pg_tup hc h hn hst
end
section
variable {P : Program} {w : World} {K : PySem.W.Frag} {mg : Str → Option Value} {base : Heap} {σ : L2.St} {H : Hp}
theorem cut1 (xs : List V) : cutV xs (some 1) none = xs.drop 1 := by
  unfold cutV
  rw [show HT.sIx xs.length 0 (some 1) = min 1 xs.length from HT.sIx_nat xs.length 0 1, HT.sIx_none]
  cases xs with
  | nil => rfl
  | cons x r =>
    rw [show min 1 (x :: r).length = 1 by rw [List.length_cons]; omega]
    show (List.take ((x :: r).length - 1) r) = r
    rw [List.length_cons, Nat.add_sub_cancel]
    exact List.take_length
theorem all_btw {lo hi : Int} : ∀ {ds : List PyData}, ds.all (btw lo hi) = true → ∃ ns : List Int, ds = ns.map PyData.int
  | [], _ => ⟨[], rfl⟩
  | d :: r, h => by
    rw [List.all_cons, Bool.and_eq_true] at h
    obtain ⟨ns, e⟩ := all_btw h.2
    cases d with
    | int i => exact ⟨i :: ns, by rw [e]; rfl⟩
    | _ => cases h.1
theorem dpa_ofInts : ∀ {xs : List V} {ns : List Int}, DpAll K H xs (ns.map PyData.int) → xs = ns.map V.int
  | _, [], .nil => rfl
  | _, n :: r, .cons a b => by
    cases a
    rw [dpa_ofInts b]; rfl
def lessAt (ns : List Int) (i : Nat) : Bool := decide (ns.getD i 0 < ns.getD (i + 1) 0)
theorem up_ints : ∀ ns : List Int, ((List.range (ns.length - 1)).map (lessAt ns)).all id = up (ns.map PyData.int)
  | [] => rfl
  | [a] => rfl
  | a :: b :: r => by
    have ih := up_ints (b :: r)
    show ((List.range (r.length + 1)).map (lessAt (a :: b :: r))).all id = (decide (a < b) && up ((b :: r).map PyData.int))
    rw [← ih, List.range_succ_eq_map, List.map_cons, List.all_cons, List.map_map]
    rfl
def spCl (K : PySem.W.Frag) : Sp := fun vs H Q _ => ∃ (v : V) (d : PyData) (c n : Nat), vs = [v, .int (c : Int)] ∧ Dp K H v d ∧ fit d n = true ∧ ∀ H', Ex H H' → Q (.bl (cellsD c d)) H'
theorem ev_spCl {te t1 : TE} {E : XK} {v : V} {d : PyData} {c n : Nat} (h : Ev te σ H v) (h1 : Ev t1 σ H (.int (c : Int))) (hd : Dp K H v d) (hf : fit d n = true) : Ev (tCall (spCl K) [] E (tCons te (tCons t1 tNil))) σ H (.bl (cellsD c d)) :=
  ev_call (ea_cons h (ea_cons h1 ea_nil)) fun H1 e Q q _ => ⟨v, d, c, n, rfl, dp_ex e d v hd, hf, q⟩
theorem ok_is_cell_list {f : Addr} {fd : FuncData} {k : Nat} (F : Fun K "is_cell_list" "is_cell_list" sis_cell_list f fd) (z_isinstance : mg "isinstance" = none) (z_list : mg "list" = none) (z_all : mg "all" = none) (z_zip : mg "zip" = none) (Cis_index : Cal P w K mg base 3 "is_index" (spIx K) []) (hk : 3 ≤ k) :
    FnOk P w K mg base CX0 (k + 1) f fd ["value", "cells"] (spCl K) := by
  have sc := scis_cell_list
  refine F.ok sc (fun vs H Q E h => ?_) (fun cdv A outer s H vs Q E hr h => ?_)
  · obtain ⟨v, d, c, n, rfl, _⟩ := h
    rfl
  · obtain ⟨v, d, c, n, rfl, hd, hf, q⟩ := h
    refine ⟨_, (pss_cons (ps_if (pt_not (pt_val (pe_callB call_isi (by rfl) z_isinstance (by decide +kernel) (pa_cons (pv 0) (pa_cons (pe_bltn (v := .ty "list") (by rfl) z_list (by decide +kernel) rfl) pa_nil)))))
      (pss_one (ps_ret pe_bl))
      pss_nil)
      (pss_cons (ps_if (pt_not (pt_val (pe_callB (cr_all rfl) (by rfl) z_all (by decide +kernel) (pa_cons (pe_lc (own := [("cell", 4)]) (by rfl) sc.nd (pi_list (pv 0)) (blkOk_by (own := [("cell", 4)]) (N := ["value", "cells", "one", "other", "cell"]) (sc := defScope sis_cell_list) (by decide +kernel)) (fun _ _ _ _ _ => (pg_name (i := 4) sc.nd rfl (by first | exact Or.inl rfl | exact Or.inr rfl))) (fun _ _ _ _ _ => pts_nil) (fun _ _ _ _ _ => (pe_c Cis_index hr (by omega) (by rfl) (pa_cons (pv 4) (pa_cons (pv 1) pa_nil))))) pa_nil))))
      (pss_one (ps_ret pe_bl))
      pss_nil)
      (pss_one (ps_ret (pe_callB (cr_all rfl) (by rfl) z_all (by decide +kernel) (pa_cons (pe_lc (own := [("one", 2), ("other", 3)]) (by rfl) sc.nd (pi_zip (by rfl) z_zip (pa_cons (pv 0) (pa_cons (pe_slice sl_list (pv 0) (po_some pe_int) po_none) pa_nil))) (blkOk_by (own := [("one", 2), ("other", 3)]) (N := ["value", "cells", "one", "other", "cell"]) (sc := defScope sis_cell_list) (by decide +kernel)) (fun _ _ _ _ _ => (pg_tupK (K := K) (n := 2) rfl rfl (pgs_cons (pg_name (i := 2) sc.nd rfl (by first | exact Or.inl rfl | exact Or.inr rfl)) (pgs_cons (pg_name (i := 3) sc.nd rfl (by first | exact Or.inl rfl | exact Or.inr rfl)) pgs_nil)))) (fun _ _ _ _ _ => pts_nil) (fun _ _ _ _ _ => (pe_cmpR op_lt (pv 2) (pv 3) (nomark _)))) pa_nil)))))), ?_⟩
    have kd := kitB_isa d
    refine q_when (et_not (et_B (ev_isi hd (ev_var rfl) kd.2.2.2.1))) (fun hb H1 e1 => ?_) (fun hb H1 e1 => ?_)
    · rw [Bool.not_eq_true'] at hb
      rw [(rowD_list (c := c) hb).2.1] at q
      exact s_ret ev_c fun H2 e2 => q H2 (e1.trans e2)
    rw [Bool.not_eq_false'] at hb
    obtain ⟨a, xs, ds, rfl, rfl, hs, hx⟩ := isa_list_t hd hb
    obtain ⟨m, em, lx, gx⟩ := fit_list hf
    have lxs := dpa_len hx
    refine q_when (et_not (et_B (ev_allN (el_tests (btw 0 ((c : Int) - 1)) (ev_var rfl) (ex_l e1 hs) (dpa_ex e1 ds _ hx) lx (fun _ => rfl) fun v d H2 e2 hv => ev_spIx (ev_var rfl) (ev_var rfl) hv)))) (fun hc H2 e2 => ?_) (fun hc H2 e2 => ?_)
    · rw [Bool.not_eq_true', all_map] at hc
      rw [cellsD, hc] at q
      exact s_ret ev_c fun H3 e3 => q H3 ((e1.trans e2).trans e3)
    rw [Bool.not_eq_false', all_map] at hc
    have e12 := e1.trans e2
    rw [cellsD, hc, Bool.true_and] at q
    obtain ⟨ns, rfl⟩ := all_btw hc
    obtain rfl := dpa_ofInts hx
    rw [List.length_map] at lxs lx
    have hs2 := ex_l e12 hs
    refine s_retR (cb_1 ?_)
    refine ⟨.ref a, rfl, .ref a, rfl, 1, rfl, a, ns.map V.int, rfl, hs2, fun C nC => ?_⟩
    rw [cut1, ← List.map_drop]
    have eC := Ex.new (o := .lst ((ns.drop 1).map V.int)) nC
    have e3 := e12.trans eC
    refine ⟨a, C, ns.map V.int, (ns.drop 1).map V.int, rfl, ex_l eC hs2, sq_of upd_same, fun D nD => ?_⟩
    refine lc_it (walk_zip (n := ns.length - 1) (xs := ns.map V.int) (ys := (ns.drop 1).map V.int) (by rw [List.length_map, List.length_map, List.length_drop]; omega)) (fun i H' => Ex (upd H2 C (.lst ((ns.drop 1).map V.int))) H' ∧ H' D = some (.lst (((List.range i).map (lessAt ns)).map V.bl)))
      ⟨Ex.new nD, upd_same⟩ (fun i H' _ p => ⟨ex_l (eC.trans p.1) hs2, sq_of (p.1 _ _ upd_same)⟩) (fun i v H' H3 hi p y => ?_) (fun H' p => ?_)
    · obtain ⟨p1, p2⟩ := p
      obtain ⟨T, x, z, rfl, nT, rfl, hx, hz⟩ := y
      have h1 : i < ns.length := by omega
      have h2 : i + 1 < ns.length := by omega
      have hx : (ns.map V.int)[i]? = some x := hx
      have hz : ((ns.drop 1).map V.int)[i]? = some z := hz
      rw [List.getElem?_map, List.getElem?_eq_getElem h1] at hx
      have hx : V.int ns[i] = x := Option.some.inj hx
      subst hx
      rw [List.getElem?_map, List.getElem?_drop, Nat.add_comm 1 i, List.getElem?_eq_getElem h2] at hz
      have hz : V.int ns[i + 1] = z := Option.some.inj hz
      subst hz
      refine ⟨T, [.int ns[i], .int ns[i + 1]], rfl, .inl (.inl upd_same), rfl, .int ns[i], [.int ns[i + 1]], rfl, .int ns[i + 1], [], rfl, rfl, ?_⟩
      refine ⟨rfl, .int ns[i], rfl, .int ns[i + 1], rfl, ns[i], ns[i + 1], rfl, rfl, _, Ex.new nT _ _ p2, ?_, (p1.trans (Ex.new nT)).mut nD, ?_⟩
      · rw [List.length_map, List.length_map, List.length_range]; exact sz_lt (by omega)
      · rw [upd_same, List.range_succ, List.map_append, List.map_append]
        have : decide (ns[i] < ns[i + 1]) = lessAt ns i := by
          rw [lessAt, List.getD_eq_getElem?_getD, List.getD_eq_getElem?_getD, List.getElem?_eq_getElem h1, List.getElem?_eq_getElem h2]
          rfl
        exact congrArg (fun b => some (HO.lst (((List.range i).map (lessAt ns)).map V.bl ++ [V.bl b]))) this
    · refine ⟨D, _, rfl, sq_of p.2, ?_⟩
      rw [up_ints]
      exact q H' (e3.trans p.1)
/-! ### statements -/
theorem sized_cases {d : PyData} (h : sizedD d = true) : (∃ a, d = .tuple [.str "carry", a]) ∨ (∃ a, d = .tuple [.str "again", a]) ∨ (∃ a, d = .tuple [.str "end", a]) ∨ (∃ a b, d = .tuple [.str "set", a, b]) ∨ (∃ a b, d = .tuple [.str "keep", a, b]) ∨
    (∃ a b, d = .tuple [.str "either", a, b]) ∨ ∃ a b e, d = .tuple [.str "call", a, b, e] := by
  match d, h with
  | .tuple (.str x :: r), h =>
    rw [sizedD, decide_eq_true_eq] at h
    unfold szOf at h
    split at h
    · rename_i e; subst e
      match r, h with
      | [a, b], _ => exact .inr (.inr (.inr (.inl ⟨a, b, rfl⟩)))
      | [], h | [_], h | _ :: _ :: _ :: _, h => simp at h
    · split at h
      · rename_i e; subst e
        match r, h with
        | [a], _ => exact .inl ⟨a, rfl⟩
        | [], h | _ :: _ :: _, h => simp at h
      · split at h
        · rename_i e; subst e
          match r, h with
          | [a, b], _ => exact .inr (.inr (.inr (.inr (.inl ⟨a, b, rfl⟩))))
          | [], h | [_], h | _ :: _ :: _ :: _, h => simp at h
        · split at h
          · rename_i e; subst e
            match r, h with
            | [a, b], _ => exact .inr (.inr (.inr (.inr (.inr (.inl ⟨a, b, rfl⟩)))))
            | [], h | [_], h | _ :: _ :: _ :: _, h => simp at h
          · split at h
            · rename_i e; subst e
              match r, h with
              | [a], _ => exact .inr (.inl ⟨a, rfl⟩)
              | [], h | _ :: _ :: _, h => simp at h
            · split at h
              · rename_i e; subst e
                match r, h with
                | [a, b, e], _ => exact .inr (.inr (.inr (.inr (.inr (.inr ⟨a, b, e, rfl⟩)))))
                | [], h | [_], h | [_, _], h | _ :: _ :: _ :: _ :: _, h => simp at h
              · split at h
                · rename_i e; subst e
                  match r, h with
                  | [a], _ => exact .inr (.inr (.inl ⟨a, rfl⟩))
                  | [], h | _ :: _ :: _, h => simp at h
                · cases h
end
section
variable {P : Program} {w : World} {K : PySem.W.Frag} {mg : Str → Option Value} {base : Heap} {σ : L2.St} {H : Hp}
theorem szw : szOf "set" = some 3 ∧ szOf "carry" = some 2 ∧ szOf "keep" = some 3 ∧ szOf "either" = some 3 ∧ szOf "again" = some 2 ∧ szOf "call" = some 4 ∧ szOf "end" = some 2 := by decide
theorem stm_sized {c m : Nat} {d : PyData} (h : sizedD d = false) : stmD c m d = false := by
  cases e : stmD c m d with
  | false => rfl
  | true =>
    exfalso
    unfold stmD at e
    split at e
    · split at e
      · rename_i h1; subst h1; simp [sizedD, szw] at h
      · split at e
        · rename_i h1; subst h1; simp [sizedD, szw] at h
        · split at e
          · rename_i h1; subst h1; simp [sizedD, szw] at h
          · cases e
    · split at e
      · rename_i h1; subst h1; simp [sizedD, szw] at h
      · split at e
        · rename_i h1; subst h1; simp [sizedD, szw] at h
        · split at e
          · rename_i h1; subst h1; simp [sizedD, szw] at h
          · cases e
    · split at e
      · rename_i h1; subst h1; simp [sizedD, szw] at h
      · cases e
    · cases e
theorem ev_spSized {te : TE} {E : XK} {v : V} {d : PyData} {ok : Str → Prop} (h : Ev te σ H v) (hd : Dp K H v d) (hw : wordOk ok d) : Ev (tCall (spSized K ok) [] E (tCons te tNil)) σ H (.bl (sizedD d)) :=
  ev_call (ea_cons h ea_nil) fun H1 e Q q _ => ⟨v, d, rfl, dp_ex e d v hd, hw, q⟩
theorem ev_spPair {te : TE} {E : XK} {v : V} {d : PyData} (h : Ev te σ H v) (hd : Dp K H v d) : Ev (tCall (spPair K) [] E (tCons te tNil)) σ H (.bl (pairD d)) :=
  ev_call (ea_cons h ea_nil) fun H1 e Q q _ => ⟨v, d, rfl, dp_ex e d v hd, q⟩
def spStm (K : PySem.W.Frag) (ok : Str → Prop) : Sp := fun vs H Q _ => ∃ (v : V) (d : PyData) (c m n : Nat), vs = [v, .int (c : Int), .int (m : Int)] ∧ Dp K H v d ∧ fit d n = true ∧ wordOk ok d ∧ ∀ H', Ex H H' → Q (.bl (stmD c m d)) H'
theorem ev_spStm {te t1 t2 : TE} {E : XK} {v : V} {d : PyData} {ok : Str → Prop} {c m n : Nat} (h : Ev te σ H v) (h1 : Ev t1 σ H (.int (c : Int))) (h2 : Ev t2 σ H (.int (m : Int))) (hd : Dp K H v d) (hf : fit d n = true) (hw : wordOk ok d) : Ev (tCall (spStm K ok) [] E (tCons te (tCons t1 (tCons t2 tNil)))) σ H (.bl (stmD c m d)) :=
  ev_call (ea_cons h (ea_cons h1 (ea_cons h2 ea_nil))) fun H1 e Q q _ => ⟨v, d, c, m, n, rfl, dp_ex e d v hd, hf, hw, q⟩
theorem ev_at {tl : TE} {a : Addr} {xs : List V} {j : Nat} {v : V} (h : Ev tl σ H (.ref a)) (hs : SqT K H a xs) (hx : xs[j]? = some v) : Ev (tOp (rIxT K) tl (tC (.int (j : Int)))) σ H v := ev_op h ev_c (rv_ixT hs (atI_nat hx))
theorem dp_tup {v : V} {ds : List PyData} (h : Dp K H v (.tuple ds)) : ∃ a xs, v = .ref a ∧ SqT K H a xs ∧ DpAll K H xs ds := by
  cases h with
  | tup s a => exact ⟨_, _, rfl, s, a⟩
theorem dpa1 {xs : List V} {d : PyData} {r : List PyData} (h : DpAll K H xs (d :: r)) : ∃ v vr, xs = v :: vr ∧ Dp K H v d ∧ DpAll K H vr r := by
  cases h with
  | cons a b => exact ⟨_, _, rfl, a, b⟩
theorem dpa0 {xs : List V} (h : DpAll K H xs []) : xs = [] := by cases h; rfl
theorem dp_str {v : V} {x : Str} (h : Dp K H v (.str x)) : v = .str x := by cases h; rfl
/-- the items of a statement of two, three or four -/
theorem items2 {v : V} {x : Str} {a : PyData} (h : Dp K H v (.tuple [.str x, a])) : ∃ t va, v = .ref t ∧ SqT K H t [.str x, va] ∧ Dp K H va a := by
  obtain ⟨t, xs, rfl, s, hx⟩ := dp_tup h
  obtain ⟨v0, r0, rfl, p0, q0⟩ := dpa1 hx
  obtain ⟨v1, r1, rfl, p1, q1⟩ := dpa1 q0
  rw [dpa0 q1, dp_str p0] at s
  exact ⟨t, v1, rfl, s, p1⟩
theorem items3 {v : V} {x : Str} {a b : PyData} (h : Dp K H v (.tuple [.str x, a, b])) : ∃ t va vb, v = .ref t ∧ SqT K H t [.str x, va, vb] ∧ Dp K H va a ∧ Dp K H vb b := by
  obtain ⟨t, xs, rfl, s, hx⟩ := dp_tup h
  obtain ⟨v0, r0, rfl, p0, q0⟩ := dpa1 hx
  obtain ⟨v1, r1, rfl, p1, q1⟩ := dpa1 q0
  obtain ⟨v2, r2, rfl, p2, q2⟩ := dpa1 q1
  rw [dpa0 q2, dp_str p0] at s
  exact ⟨t, v1, v2, rfl, s, p1, p2⟩
theorem items4 {v : V} {x : Str} {a b c : PyData} (h : Dp K H v (.tuple [.str x, a, b, c])) : ∃ t va vb vc, v = .ref t ∧ SqT K H t [.str x, va, vb, vc] ∧ Dp K H va a ∧ Dp K H vb b ∧ Dp K H vc c := by
  obtain ⟨t, xs, rfl, s, hx⟩ := dp_tup h
  obtain ⟨v0, r0, rfl, p0, q0⟩ := dpa1 hx
  obtain ⟨v1, r1, rfl, p1, q1⟩ := dpa1 q0
  obtain ⟨v2, r2, rfl, p2, q2⟩ := dpa1 q1
  obtain ⟨v3, r3, rfl, p3, q3⟩ := dpa1 q2
  rw [dpa0 q3, dp_str p0] at s
  exact ⟨t, v1, v2, v3, rfl, s, p1, p2, p3⟩
theorem fit_items {ds : List PyData} {n : Nat} (h : fit (.tuple ds) n = true) : ∃ m, ∀ d ∈ ds, fit d m = true := by
  obtain ⟨m, _, _, g⟩ := fit_tuple h
  exact ⟨m, fun d hd => fitAll_mem g hd⟩
/-- a chain of tests of the word: what the word is not is passed by -/
theorem q_word {D : Ends} {tr tz : TS} {i : Nat} {x y : Str} (hσ : σ[i]? = some (some (.str x))) (hne : decide (V.str x = V.str y) = false) (k : ∀ H1, Ex H H1 → tz D σ H1) : tSeq (tIfS (tTest (tOp rEq (tVar i) (tC (.str y)))) tr tNext) tz D σ H :=
  q_when (et_test (ev_op (ev_var hσ) ev_c (rv_eq rfl))) (fun h => by rw [hne] at h; cases h) fun _ H1 e => k H1 e
theorem q_word1 {D : Ends} {tr tz : TS} {i : Nat} {x : Str} (hσ : σ[i]? = some (some (.str x))) (k : ∀ H1, Ex H H1 → tr { D with nx := tz D } σ H1) : tSeq (tIfS (tTest (tOp rEq (tVar i) (tC (.str x)))) tr tNext) tz D σ H :=
  q_when (et_test (ev_op (ev_var hσ) ev_c (rv_eq rfl))) (fun _ H1 e => k H1 e) fun h => by rw [decide_eq_true rfl] at h; cases h
theorem ok_is_statement {f : Addr} {fd : FuncData} {k : Nat} {ok : Str → Prop} (F : Fun K "is_statement" "is_statement" sis_statement f fd) (z_isinstance : mg "isinstance" = none) (z_list : mg "list" = none) (Cis_sized : Cal P w K mg base 1 "is_sized" (spSized K ok) []) (Cis_index : Cal P w K mg base 3 "is_index" (spIx K) [])
    (Cis_bit : Cal P w K mg base 3 "is_bit" (spBit K) []) (Cis_row : Cal P w K mg base 3 "is_row" (spRw K) []) (Cis_cell_list : Cal P w K mg base 4 "is_cell_list" (spCl K) []) (Cis_block_pair : Cal P w K mg base 1 "is_block_pair" (spPair K) []) (hk : 4 ≤ k) :
    FnOk P w K mg base CX0 (k + 1) f fd ["value", "cells", "procedures"] (spStm K ok) := by
  have sc := scis_statement
  refine F.ok sc (fun vs H Q E h => ?_) (fun cdv A outer s H vs Q E hr h => ?_)
  · obtain ⟨v, d, c, m, n, rfl, _⟩ := h
    rfl
  · obtain ⟨v, d, c, m, n, rfl, hd, hf, hw, q⟩ := h
    refine ⟨_, (pss_cons (ps_if (pt_not (pt_val (pe_c Cis_sized hr (by omega) (by rfl) (pa_cons (pv 0) pa_nil))))
      (pss_one (ps_ret pe_bl))
      pss_nil)
      (pss_cons (ps_set (i := 3) sc.nd rfl (by first | exact Or.inl rfl | exact Or.inr rfl) (pe_ix ix_tup (pv 0) pe_int (fun _ _ => rfl)))
      (pss_cons (ps_if (pt_cmpR op_eq (pv 3) pe_str (nomark _))
      (pss_one (ps_ret (pe_and (pe_c Cis_index hr (by omega) (by rfl) (pa_cons (pe_ix ix_tup (pv 0) pe_int (fun _ _ => rfl)) (pa_cons (pv 1) pa_nil))) (pe_one (pe_c Cis_row hr (by omega) (by rfl) (pa_cons (pe_ix ix_tup (pv 0) pe_int (fun _ _ => rfl)) (pa_cons (pv 1) pa_nil)))))))
      pss_nil)
      (pss_cons (ps_if (pt_cmpR op_eq (pv 3) pe_str (nomark _))
      (pss_one (ps_ret (pe_c Cis_row hr (by omega) (by rfl) (pa_cons (pe_ix ix_tup (pv 0) pe_int (fun _ _ => rfl)) (pa_cons (pv 1) pa_nil)))))
      pss_nil)
      (pss_cons (ps_if (pt_cmpR op_eq (pv 3) pe_str (nomark _))
      (pss_one (ps_ret (pe_and (pe_c Cis_cell_list hr (by omega) (by rfl) (pa_cons (pe_ix ix_tup (pv 0) pe_int (fun _ _ => rfl)) (pa_cons (pv 1) pa_nil))) (pe_one (pe_callB call_isi (by rfl) z_isinstance (by decide +kernel) (pa_cons (pe_ix ix_tup (pv 0) pe_int (fun _ _ => rfl)) (pa_cons (pe_bltn (v := .ty "list") (by rfl) z_list (by decide +kernel) rfl) pa_nil)))))))
      pss_nil)
      (pss_cons (ps_if (pt_cmpR op_eq (pv 3) pe_str (nomark _))
      (pss_one (ps_ret (pe_and (pe_callB call_isi (by rfl) z_isinstance (by decide +kernel) (pa_cons (pe_ix ix_tup (pv 0) pe_int (fun _ _ => rfl)) (pa_cons (pe_bltn (v := .ty "list") (by rfl) z_list (by decide +kernel) rfl) pa_nil))) (pe_one (pe_callB call_isi (by rfl) z_isinstance (by decide +kernel) (pa_cons (pe_ix ix_tup (pv 0) pe_int (fun _ _ => rfl)) (pa_cons (pe_bltn (v := .ty "list") (by rfl) z_list (by decide +kernel) rfl) pa_nil)))))))
      pss_nil)
      (pss_cons (ps_if (pt_cmpR op_eq (pv 3) pe_str (nomark _))
      (pss_one (ps_ret (pe_callB call_isi (by rfl) z_isinstance (by decide +kernel) (pa_cons (pe_ix ix_tup (pv 0) pe_int (fun _ _ => rfl)) (pa_cons (pe_bltn (v := .ty "list") (by rfl) z_list (by decide +kernel) rfl) pa_nil)))))
      pss_nil)
      (pss_cons (ps_if (pt_cmpR op_eq (pv 3) pe_str (nomark _))
      (pss_one (ps_ret (pe_and (pe_c Cis_index hr (by omega) (by rfl) (pa_cons (pe_ix ix_tup (pv 0) pe_int (fun _ _ => rfl)) (pa_cons (pv 2) pa_nil))) (pe_and (pe_c Cis_row hr (by omega) (by rfl) (pa_cons (pe_ix ix_tup (pv 0) pe_int (fun _ _ => rfl)) (pa_cons (pv 1) pa_nil))) (pe_one (pe_c Cis_block_pair hr (by omega) (by rfl) (pa_cons (pe_ix ix_tup (pv 0) pe_int (fun _ _ => rfl)) pa_nil)))))))
      pss_nil)
      (pss_one (ps_ret (pe_c Cis_bit hr (by omega) (by rfl) (pa_cons (pe_ix ix_tup (pv 0) pe_int (fun _ _ => rfl)) pa_nil)))))))))))), ?_⟩
    refine q_when (et_not (et_B (ev_spSized (ev_var rfl) hd hw))) (fun hb H1 e1 => ?_) (fun hb H1 e1 => ?_)
    · rw [Bool.not_eq_true'] at hb
      rw [stm_sized hb] at q
      exact s_ret ev_c fun H2 e2 => q H2 (e1.trans e2)
    rw [Bool.not_eq_false'] at hb
    have hd1 := dp_ex e1 _ _ hd
    rcases sized_cases hb with ⟨a, rfl⟩ | ⟨a, rfl⟩ | ⟨a, rfl⟩ | ⟨a, b, rfl⟩ | ⟨a, b, rfl⟩ | ⟨a, b, rfl⟩ | ⟨a, b, e, rfl⟩
    · -- carry
      obtain ⟨t, va, rfl, s, pa⟩ := items2 hd1
      obtain ⟨n', fa⟩ := fit_items hf
      refine q_asg (ev_at (j := 0) (ev_var rfl) s rfl) fun H2 e2 => ?_
      refine q_word rfl (by decide) fun H3 e3 => ?_
      refine q_word1 rfl fun H4 e4 => ?_
      have e24 := (e2.trans e3).trans e4
      exact s_ret (ev_spRw (ev_at (j := 1) (ev_var rfl) (ex_t e24 s) rfl) (ev_var rfl) (dp_ex e24 _ _ pa) (fa a (by simp))) fun H5 e5 => q H5 (e1.trans (e24.trans e5))
    · -- again
      obtain ⟨t, va, rfl, s, pa⟩ := items2 hd1
      refine q_asg (ev_at (j := 0) (ev_var rfl) s rfl) fun H2 e2 => ?_
      refine q_word rfl (by decide) fun H3 e3 => ?_
      refine q_word rfl (by decide) fun H4 e4 => ?_
      refine q_word rfl (by decide) fun H5 e5 => ?_
      refine q_word rfl (by decide) fun H6 e6 => ?_
      refine q_word1 rfl fun H7 e7 => ?_
      have e27 := ((((e2.trans e3).trans e4).trans e5).trans e6).trans e7
      refine s_ret (ev_isi (dp_ex e27 _ _ pa) (ev_at (j := 1) (ev_var rfl) (ex_t e27 s) rfl) (kitB_isa a).2.2.2.1) fun H8 e8 => ?_
      rw [← listD_isa]
      exact q H8 (e1.trans (e27.trans e8))
    · -- end
      obtain ⟨t, va, rfl, s, pa⟩ := items2 hd1
      refine q_asg (ev_at (j := 0) (ev_var rfl) s rfl) fun H2 e2 => ?_
      refine q_word rfl (by decide) fun H3 e3 => ?_
      refine q_word rfl (by decide) fun H4 e4 => ?_
      refine q_word rfl (by decide) fun H5 e5 => ?_
      refine q_word rfl (by decide) fun H6 e6 => ?_
      refine q_word rfl (by decide) fun H7 e7 => ?_
      refine q_word rfl (by decide) fun H8 e8 => ?_
      have e28 := (((((e2.trans e3).trans e4).trans e5).trans e6).trans e7).trans e8
      exact s_ret (ev_spBit (ev_at (j := 1) (ev_var rfl) (ex_t e28 s) rfl) (dp_ex e28 _ _ pa)) fun H9 e9 => q H9 (e1.trans (e28.trans e9))
    · -- set
      obtain ⟨t, va, vb, rfl, s, pa, pb⟩ := items3 hd1
      obtain ⟨n', fa⟩ := fit_items hf
      refine q_asg (ev_at (j := 0) (ev_var rfl) s rfl) fun H2 e2 => ?_
      refine q_word1 rfl fun H3 e3 => ?_
      have e23 := e2.trans e3
      exact s_ret (ev_andV (ev_spIx (ev_at (j := 1) (ev_var rfl) (ex_t e23 s) rfl) (ev_var rfl) (dp_ex e23 _ _ pa)) fun _ => ev_spRw (ev_at (j := 2) (ev_var rfl) (ex_t e23 s) rfl) (ev_var rfl) (dp_ex e23 _ _ pb) (fa b (by simp))) fun H4 e4 => q H4 (e1.trans (e23.trans e4))
    · -- keep
      obtain ⟨t, va, vb, rfl, s, pa, pb⟩ := items3 hd1
      obtain ⟨n', fa⟩ := fit_items hf
      refine q_asg (ev_at (j := 0) (ev_var rfl) s rfl) fun H2 e2 => ?_
      refine q_word rfl (by decide) fun H3 e3 => ?_
      refine q_word rfl (by decide) fun H4 e4 => ?_
      refine q_word1 rfl fun H5 e5 => ?_
      have e25 := ((e2.trans e3).trans e4).trans e5
      refine s_ret (ev_andV (ev_spCl (ev_at (j := 1) (ev_var rfl) (ex_t e25 s) rfl) (ev_var rfl) (dp_ex e25 _ _ pa) (fa a (by simp))) fun _ => ev_isi (dp_ex e25 _ _ pb) (ev_at (j := 2) (ev_var rfl) (ex_t e25 s) rfl) (kitB_isa b).2.2.2.1) fun H6 e6 => ?_
      rw [← listD_isa]
      exact q H6 (e1.trans (e25.trans e6))
    · -- either
      obtain ⟨t, va, vb, rfl, s, pa, pb⟩ := items3 hd1
      refine q_asg (ev_at (j := 0) (ev_var rfl) s rfl) fun H2 e2 => ?_
      refine q_word rfl (by decide) fun H3 e3 => ?_
      refine q_word rfl (by decide) fun H4 e4 => ?_
      refine q_word rfl (by decide) fun H5 e5 => ?_
      refine q_word1 rfl fun H6 e6 => ?_
      have e26 := (((e2.trans e3).trans e4).trans e5).trans e6
      refine s_ret (ev_andV (ev_isi (dp_ex e26 _ _ pa) (ev_at (j := 1) (ev_var rfl) (ex_t e26 s) rfl) (kitB_isa a).2.2.2.1) fun _ => ev_isi (dp_ex e26 _ _ pb) (ev_at (j := 2) (ev_var rfl) (ex_t e26 s) rfl) (kitB_isa b).2.2.2.1) fun H7 e7 => ?_
      rw [← listD_isa, ← listD_isa]
      exact q H7 (e1.trans (e26.trans e7))
    · -- call
      obtain ⟨t, va, vb, ve, rfl, s, pa, pb, pe⟩ := items4 hd1
      obtain ⟨n', fa⟩ := fit_items hf
      refine q_asg (ev_at (j := 0) (ev_var rfl) s rfl) fun H2 e2 => ?_
      refine q_word rfl (by decide) fun H3 e3 => ?_
      refine q_word rfl (by decide) fun H4 e4 => ?_
      refine q_word rfl (by decide) fun H5 e5 => ?_
      refine q_word rfl (by decide) fun H6 e6 => ?_
      refine q_word rfl (by decide) fun H7 e7 => ?_
      refine q_word1 rfl fun H8 e8 => ?_
      have e28 := (((((e2.trans e3).trans e4).trans e5).trans e6).trans e7).trans e8
      exact s_ret (ev_andV (ev_spIx (ev_at (j := 1) (ev_var rfl) (ex_t e28 s) rfl) (ev_var rfl) (dp_ex e28 _ _ pa)) fun _ => ev_andV (ev_spRw (ev_at (j := 2) (ev_var rfl) (ex_t e28 s) rfl) (ev_var rfl) (dp_ex e28 _ _ pb) (fa b (by simp))) fun _ => ev_spPair (ev_at (j := 3) (ev_var rfl) (ex_t e28 s) rfl) (dp_ex e28 _ _ pe)) fun H9 e9 => q H9 (e1.trans (e28.trans e9))
end
abbrev sentries : Stmt := topS 40
theorem scentries : FnScope ["block", "path", "index"] ["block", "path"] (defScope sentries) := ⟨rfl, rfl, rfl, by decide +kernel, rfl, by decide +kernel, by decide +kernel⟩
abbrev sfits : Stmt := topS 41
theorem scfits : FnScope ["value", "path", "cells", "procedures", "level"] ["value", "path", "cells", "procedures"] (defScope sfits) := ⟨rfl, rfl, rfl, by decide +kernel, rfl, by decide +kernel, by decide +kernel⟩
abbrev sfirst_fault : Stmt := topS 42
theorem scfirst_fault : FnScope ["body", "cells", "procedures", "waiting", "many", "path", "value", "blocks", "number"] ["body", "cells", "procedures"] (defScope sfirst_fault) := ⟨rfl, rfl, rfl, by decide +kernel, rfl, by decide +kernel, by decide +kernel⟩
open StX (tStar pa_star)
section
variable {X : Cx}
theorem pa_starK {K : PySem.W.Frag} {e : Expr} {es : List Expr} {te : TE} {t : TA} {p : Pos} (hK : X.K = K) (he : PE X e te) (hr : PA X es t) (hs : starEach (.Starred e p :: es) X.env = (true, eval e X.env) :: starEach es X.env := by rfl) : PA X (.Starred e p :: es) (tStar K te t) := by
  subst hK
  exact pa_star he hr hs
end
section
variable {P : Program} {w : World} {K : PySem.W.Frag} {mg : Str → Option Value} {base : Heap} {σ : L2.St} {H H' : Hp}
/-- the blocks of a statement, new list -/
def spBlocks (K : PySem.W.Frag) : Sp := fun vs H Q _ => ∃ (v : V) (d : PyData) (c m : Nat) (H0 : Hp), vs = [v] ∧ Ex H0 H ∧ Dp K H0 v d ∧ stmD c m d = true ∧ ∀ B bs H', H B = none → Ex H H' → H' B = some (.lst bs) → DpAll K H0 bs (blocksD d) → Q (.ref B) H'
theorem stm_yes {c m : Nat} {d : PyData} (h : stmD c m d = true) : sizedD d = true := by
  cases e : sizedD d with
  | true => rfl
  | false => rw [stm_sized e] at h; cases h
theorem isa_listD {d : PyData} (h : listD d = true) : isa d "list" = true := by rw [← listD_isa]; exact h
theorem pair_t {e : PyData} (h : pairD e = true) : ∃ x y, e = .list [x, y] := by
  match e, h with
  | .list [x, y], _ => exact ⟨x, y, rfl⟩
theorem dp_lst {v : V} {ds : List PyData} (h : Dp K H v (.list ds)) : ∃ a xs, v = .ref a ∧ SqL K H a xs ∧ DpAll K H xs ds := by
  cases h with
  | lst s a => exact ⟨_, _, rfl, s, a⟩
theorem ok_blocks_of {f : Addr} {fd : FuncData} {k : Nat} (F : Fun K "blocks_of" "blocks_of" sblocks_of f fd) : FnOk P w K mg base CX0 (k + 1) f fd ["statement"] (spBlocks K) := by
  have sc := scblocks_of
  refine F.ok sc (fun vs H Q E h => ?_) (fun cdv A outer s H vs Q E hr h => ?_)
  · obtain ⟨v, d, c, m, H0, rfl, _⟩ := h
    rfl
  · obtain ⟨v, d, c, m, H0, rfl, e0, hd, hst, q⟩ := h
    refine ⟨_, (pss_cons (ps_set (i := 1) sc.nd rfl (by first | exact Or.inl rfl | exact Or.inr rfl) (pe_ix ix_tup (pv 0) pe_int (fun _ _ => rfl)))
      (pss_cons (ps_if (pt_cmpR op_eq (pv 1) pe_str (nomark _))
      (pss_one (ps_ret (pe_lst (pa_cons (pe_ix ix_tup (pv 0) pe_int (fun _ _ => rfl)) pa_nil))))
      pss_nil)
      (pss_cons (ps_if (pt_cmpR op_eq (pv 1) pe_str (nomark _))
      (pss_one (ps_ret (pe_lst (pa_cons (pe_ix ix_tup (pv 0) pe_int (fun _ _ => rfl)) (pa_cons (pe_ix ix_tup (pv 0) pe_int (fun _ _ => rfl)) pa_nil)))))
      pss_nil)
      (pss_cons (ps_if (pt_cmpR op_eq (pv 1) pe_str (nomark _))
      (pss_one (ps_ret (pe_lst (pa_cons (pe_ix ix_tup (pv 0) pe_int (fun _ _ => rfl)) pa_nil))))
      pss_nil)
      (pss_cons (ps_if (pt_cmpR op_eq (pv 1) pe_str (nomark _))
      (pss_one (ps_ret (pe_lst (pa_cons (pe_ix ix_list (pe_ix ix_tup (pv 0) pe_int (fun _ _ => rfl)) pe_int (fun _ _ => rfl)) (pa_cons (pe_ix ix_list (pe_ix ix_tup (pv 0) pe_int (fun _ _ => rfl)) pe_int (fun _ _ => rfl)) pa_nil)))))
      pss_nil)
      (pss_one (ps_ret (pe_lst pa_nil)))))))), ?_⟩
    rcases sized_cases (stm_yes hst) with ⟨a, rfl⟩ | ⟨a, rfl⟩ | ⟨a, rfl⟩ | ⟨a, b, rfl⟩ | ⟨a, b, rfl⟩ | ⟨a, b, rfl⟩ | ⟨a, b, e, rfl⟩
    · obtain ⟨t, va, rfl, s, pa⟩ := items2 hd
      replace s := ex_t e0 s
      refine q_asg (ev_at (j := 0) (ev_var rfl) s rfl) fun H2 e2 => ?_
      refine q_word rfl (by decide) fun H3 e3 => ?_
      refine q_word rfl (by decide) fun H4 e4 => ?_
      refine q_word rfl (by decide) fun H5 e5 => ?_
      refine q_word rfl (by decide) fun H6 e6 => ?_
      have e26 := (((e2.trans e3).trans e4).trans e5).trans e6
      exact s_retL (el_lst ea_nil (by decide)) fun B H7 nB e7 hB => q B [] H7 (new_ex e26 nB) (e26.trans e7) hB .nil
    · obtain ⟨t, va, rfl, s, pa⟩ := items2 hd
      replace s := ex_t e0 s
      refine q_asg (ev_at (j := 0) (ev_var rfl) s rfl) fun H2 e2 => ?_
      refine q_word rfl (by decide) fun H3 e3 => ?_
      refine q_word rfl (by decide) fun H4 e4 => ?_
      refine q_word1 rfl fun H5 e5 => ?_
      have e25 := ((e2.trans e3).trans e4).trans e5
      exact s_retL (el_lst (ea_cons (ev_at (j := 1) (ev_var rfl) (ex_t e25 s) rfl) ea_nil) (by show 1 ≤ 100000; decide)) fun B H7 nB e7 hB => q B [va] H7 (new_ex e25 nB) (e25.trans e7) hB (.cons pa .nil)
    · obtain ⟨t, va, rfl, s, pa⟩ := items2 hd
      replace s := ex_t e0 s
      refine q_asg (ev_at (j := 0) (ev_var rfl) s rfl) fun H2 e2 => ?_
      refine q_word rfl (by decide) fun H3 e3 => ?_
      refine q_word rfl (by decide) fun H4 e4 => ?_
      refine q_word rfl (by decide) fun H5 e5 => ?_
      refine q_word rfl (by decide) fun H6 e6 => ?_
      have e26 := (((e2.trans e3).trans e4).trans e5).trans e6
      exact s_retL (el_lst ea_nil (by decide)) fun B H7 nB e7 hB => q B [] H7 (new_ex e26 nB) (e26.trans e7) hB .nil
    · obtain ⟨t, va, vb, rfl, s, pa, pb⟩ := items3 hd
      replace s := ex_t e0 s
      refine q_asg (ev_at (j := 0) (ev_var rfl) s rfl) fun H2 e2 => ?_
      refine q_word rfl (by decide) fun H3 e3 => ?_
      refine q_word rfl (by decide) fun H4 e4 => ?_
      refine q_word rfl (by decide) fun H5 e5 => ?_
      refine q_word rfl (by decide) fun H6 e6 => ?_
      have e26 := (((e2.trans e3).trans e4).trans e5).trans e6
      exact s_retL (el_lst ea_nil (by decide)) fun B H7 nB e7 hB => q B [] H7 (new_ex e26 nB) (e26.trans e7) hB .nil
    · obtain ⟨t, va, vb, rfl, s, pa, pb⟩ := items3 hd
      replace s := ex_t e0 s
      refine q_asg (ev_at (j := 0) (ev_var rfl) s rfl) fun H2 e2 => ?_
      refine q_word1 rfl fun H3 e3 => ?_
      have e23 := e2.trans e3
      exact s_retL (el_lst (ea_cons (ev_at (j := 2) (ev_var rfl) (ex_t e23 s) rfl) ea_nil) (by show 1 ≤ 100000; decide)) fun B H7 nB e7 hB => q B [vb] H7 (new_ex e23 nB) (e23.trans e7) hB (.cons pb .nil)
    · obtain ⟨t, va, vb, rfl, s, pa, pb⟩ := items3 hd
      replace s := ex_t e0 s
      refine q_asg (ev_at (j := 0) (ev_var rfl) s rfl) fun H2 e2 => ?_
      refine q_word rfl (by decide) fun H3 e3 => ?_
      refine q_word1 rfl fun H4 e4 => ?_
      have e24 := (e2.trans e3).trans e4
      exact s_retL (el_lst (ea_cons (ev_at (j := 1) (ev_var rfl) (ex_t e24 s) rfl) (ea_cons (ev_at (j := 2) (ev_var rfl) (ex_t e24 s) rfl) ea_nil)) (by show 2 ≤ 100000; decide)) fun B H7 nB e7 hB => q B [va, vb] H7 (new_ex e24 nB) (e24.trans e7) hB (.cons pa (.cons pb .nil))
    · obtain ⟨t, va, vb, ve, rfl, s, pa, pb, pe⟩ := items4 hd
      replace s := ex_t e0 s
      have hp : pairD e = true := by
        have : (btw 0 ((m : Int) - 1) a && (rowD c b && pairD e)) = true := hst
        rw [Bool.and_eq_true, Bool.and_eq_true] at this
        exact this.2.2
      obtain ⟨x, y, rfl⟩ := pair_t hp
      obtain ⟨L, xs, rfl, hs, hx⟩ := dp_lst pe
      obtain ⟨vx, r1, rfl, px, q1⟩ := dpa1 hx
      obtain ⟨vy, r2, rfl, py, q2⟩ := dpa1 q1
      rw [dpa0 q2] at hs
      replace hs := ex_l e0 hs
      refine q_asg (ev_at (j := 0) (ev_var rfl) s rfl) fun H2 e2 => ?_
      refine q_word rfl (by decide) fun H3 e3 => ?_
      refine q_word rfl (by decide) fun H4 e4 => ?_
      refine q_word rfl (by decide) fun H5 e5 => ?_
      refine q_word1 rfl fun H6 e6 => ?_
      have e26 := (((e2.trans e3).trans e4).trans e5).trans e6
      have sL := ex_l e26 hs
      exact s_retL (el_lst (ea_cons (ev_op (ev_at (j := 3) (ev_var rfl) (ex_t e26 s) rfl) ev_c (rv_ixL sL (atI_nat (j := 0) rfl))) (ea_cons (ev_op (ev_at (j := 3) (ev_var rfl) (ex_t e26 s) rfl) ev_c (rv_ixL sL (atI_nat (j := 1) rfl))) ea_nil)) (by show 2 ≤ 100000; decide)) fun B H7 nB e7 hB => q B [vx, vy] H7 (new_ex e26 nB) (e26.trans e7) hB (.cons px (.cons py .nil))
end
section
variable {P : Program} {w : World} {K : PySem.W.Frag} {mg : Str → Option Value} {base : Heap} {σ : L2.St} {H H' : Hp}
/-- x is a tuple of a path and a value -/
def EntT (K : PySem.W.Frag) (H : Hp) (x : V) (e : List Int × V) : Prop := ∃ t p, x = .ref t ∧ SqT K H t [.ref p, e.2] ∧ SqT K H p (e.1.map V.int)
theorem sqT_updL {a D : Addr} {xs l l' : List V} (h : SqT K H a xs) (hD : H D = some (.lst l)) : SqT K (upd H D (.lst l')) a xs := by
  rcases h with (h | ⟨o, h⟩) | h
  · exact .inl (.inl (by rw [upd_ne (ne_of h hD (by intro z; cases z))]; exact h))
  · exact .inl (.inr ⟨o, by rw [upd_ne (ne_of h hD (by intro z; cases z))]; exact h⟩)
  · exact .inr h
theorem entT_updL {D : Addr} {l l' : List V} {x : V} {e : List Int × V} (h : EntT K H x e) (hD : H D = some (.lst l)) : EntT K (upd H D (.lst l')) x e := by
  obtain ⟨t, p, rfl, h1, h2⟩ := h
  exact ⟨t, p, rfl, sqT_updL h1 hD, sqT_updL h2 hD⟩
theorem entT_ex {x : V} {e : List Int × V} (h : EntT K H x e) (k : Ex H H') : EntT K H' x e := by
  obtain ⟨t, p, rfl, h1, h2⟩ := h
  exact ⟨t, p, rfl, ex_t k h1, ex_t k h2⟩
abbrev Ents (K : PySem.W.Frag) (H : Hp) : List V → List (List Int × V) → Prop := Paired (EntT K H)
theorem ents_updL {D : Addr} {l l' : List V} {xs : List V} {es : List (List Int × V)} (h : Ents K H xs es) (hD : H D = some (.lst l)) : Ents K (upd H D (.lst l')) xs es := Paired.mapP h fun _ _ x => entT_updL x hD
theorem ents_ex {xs : List V} {es : List (List Int × V)} (h : Ents K H xs es) (k : Ex H H') : Ents K H' xs es := Paired.mapP h fun _ _ x => entT_ex x k
theorem paired_app {α β : Type} {F : α → β → Prop} : ∀ {a c : List α} {b d : List β}, Paired F a b → Paired F c d → Paired F (a ++ c) (b ++ d)
  | _, _, _, _, .nil, h => h
  | _, _, _, _, .cons x y, h => .cons x (paired_app y h)
theorem paired_len {α β : Type} {F : α → β → Prop} : ∀ {a : List α} {b : List β}, Paired F a b → a.length = b.length
  | _, _, .nil => rfl
  | _, _, .cons _ y => by rw [List.length_cons, List.length_cons, paired_len y]
/-- the entries of a block, the last first -/
def entsV (vs : List V) (path : List Int) : List (List Int × V) := (List.range vs.length).map fun i => (path ++ [((vs.length - 1 - i : Nat) : Int)], vs.getD (vs.length - 1 - i) .non)
def spEntries (K : PySem.W.Frag) : Sp := fun vs H Q _ => ∃ (b p : Addr) (xs : List V) (path : List Int), vs = [.ref b, .ref p] ∧ SqL K H b xs ∧ SqT K H p (path.map V.int) ∧ xs.length ≤ 10000 ∧ path.length ≤ 1000 ∧
  ∀ D ys H', H D = none → Ex H H' → H' D = some (.lst ys) → Ents K H' ys (entsV xs path) → Q (.ref D) H'
theorem ok_entries {f : Addr} {fd : FuncData} {k : Nat} (F : Fun K "entries" "entries" sentries f fd) (z_range : mg "range" = none) (z_reversed : mg "reversed" = none) (z_len : mg "len" = none) : FnOk P w K mg base CX0 (k + 1) f fd ["block", "path"] (spEntries K) := by
  have sc := scentries
  refine F.ok sc (fun vs H Q E h => ?_) (fun cdv A outer s H vs Q E hr h => ?_)
  · obtain ⟨b, p, xs, path, rfl, _⟩ := h
    rfl
  · obtain ⟨b, p, xs, path, rfl, hb, hp, hl, hpl, q⟩ := h
    refine ⟨_, (pss_one (ps_ret (pe_lc (own := [("index", 2)]) (by rfl) sc.nd (pi_revR (by rfl) z_reversed (prg_1 (by rfl) z_range (pe_callB call_len_seq (by rfl) z_len (by decide +kernel) (pa_cons (pv 0) pa_nil)))) (blkOk_by (own := [("index", 2)]) (N := ["block", "path", "index"]) (sc := defScope sentries) (by decide +kernel)) (fun _ _ _ _ _ => (pg_name (i := 2) sc.nd rfl (by first | exact Or.inl rfl | exact Or.inr rfl))) (fun _ _ _ _ _ => pts_nil) (fun _ _ _ _ _ => (pe_tup (pa_cons (pe_tup (pa_starK (K := K) rfl (pv 1) (pa_cons (pv 2) pa_nil))) (pa_cons (pe_ix (ix_list : IxR _ (rIxL K)) (pv 0) (pv 2) (fun _ _ => rfl)) pa_nil))))))), ?_⟩
    refine s_retR ?_
    refine ⟨.ref b, rfl, b, xs, rfl, .inl hb, (xs.length : Int), rfl, by omega, by omega, by omega, by omega, fun D nD => ?_⟩
    have hn : ((xs.length : Int) - 0).toNat = xs.length := by omega
    rw [hn]
    have wk := (walk_rangeC (lo := (0 : Int) + ((xs.length : Nat) : Int) - 1) (c := -1) (n := xs.length)).mono (G' := fun _ => True) (Y' := fun i H x H' => H' = H ∧ x = .int ((xs.length - 1 - i : Nat) : Int)) (fun _ _ => trivial) (fun i H x H' hi _ y => ⟨y.1, by rw [y.2]; exact congrArg V.int (by omega)⟩)
    refine lc_it wk (fun i H' => ∃ ys, Ex H H' ∧ H' D = some (.lst ys) ∧ Ents K H' ys ((entsV xs path).take i)) ⟨[], Ex.new nD, upd_same, .nil⟩ (fun _ _ _ _ => trivial) (fun i x H' H'' hi hP y => ?_) (fun H' hP => ?_)
    · obtain ⟨ys, e, hD, he⟩ := hP
      obtain ⟨rfl, rfl⟩ := y
      have hj : xs.length - 1 - i < xs.length := by omega
      show wipe ((wipe _ _).set 2 (some (.int ((xs.length - 1 - i : Nat) : Int)))) _ = wipe _ _ ∧ _
      refine ⟨rfl, .ref p, rfl, p, path.map V.int, rfl, .inl (ex_t e hp), .int ((xs.length - 1 - i : Nat) : Int), rfl, ?_, fun T nT => ?_⟩
      · have := small1000 (n := 1000) (Nat.le_refl _)
        have h2 := sz_of (n := (path.map V.int ++ [V.int ((xs.length - 1 - i : Nat) : Int)]).length) (by rw [List.length_append, List.length_map, List.length_singleton]; omega)
        exact h2
      have eT := Ex.new (o := .tup (path.map V.int ++ [V.int ((xs.length - 1 - i : Nat) : Int)])) nT
      refine ⟨.ref b, rfl, .int ((xs.length - 1 - i : Nat) : Int), rfl, b, xs, _, xs.getD (xs.length - 1 - i) .non, rfl, rfl, ex_l (e.trans eT) hb, atI_nat (by rw [List.getElem?_eq_getElem hj, List.getD_eq_getElem?_getD, List.getElem?_eq_getElem hj]; rfl), by show 2 ≤ sizeLine; decide, fun U nU => ?_⟩
      have eU := Ex.new (o := .tup [.ref T, xs.getD (xs.length - 1 - i) .non]) nU
      have e2 := (e.trans eT).trans eU
      have lys := paired_len he
      refine ⟨ys, eU _ _ (eT _ _ hD), ?_, ys ++ [.ref U], e2.mut nD, upd_same, ?_⟩
      · rw [lys, List.length_take]; exact sz_lt (by rw [entsV, List.length_map, List.length_range]; omega)
      · rw [List.take_add_one, show (entsV xs path)[i]? = some (path ++ [((xs.length - 1 - i : Nat) : Int)], xs.getD (xs.length - 1 - i) .non) by rw [entsV, List.getElem?_map, List.getElem?_range hi]; rfl]
        refine paired_app (ents_updL (ents_ex he (eT.trans eU)) (eU _ _ (eT _ _ hD))) (.cons ?_ .nil)
        refine entT_updL (l := ys) ⟨U, T, rfl, st_of upd_same, st_of (eU _ _ (by rw [upd_same, List.map_append]; rfl))⟩ (eU _ _ (eT _ _ hD))
    · obtain ⟨ys, e, hD, he⟩ := hP
      rw [List.take_of_length_le (by rw [entsV, List.length_map, List.length_range]; omega)] at he
      exact q D ys H' nD e hD he
end
/-! ### reading a body with a stack -/
def lastI (p : List Int) : Int := p.getD (p.length - 1) 0
def fitsD (c m : Nat) (p : List Int) (d : PyData) : Bool := !(decide (8 ≤ lastI p) || !stmD c m d) && (decide (p.length / 2 < 3) || (blocksD d).isEmpty)
def elems : PyData → List PyData
  | .list ds => ds
  | _ => []
/-- the items of a block in order, with their paths -/
def itemsD (p : List Int) (ds : List PyData) : List (List Int × PyData) := (List.range ds.length).map fun (i : Nat) => (p ++ [(i : Int)], ds.getD i .none)
/-- the blocks from the k-th on -/
def flatD (p : List Int) : Nat → List PyData → List (List Int × PyData)
  | _, [] => []
  | k, b :: r => itemsD (p ++ [(k : Int)]) (elems b) ++ flatD p (k + 1) r
def ffD (c m : Nat) : Nat → List (List Int × PyData) → Nat → Option (List Int)
  | 0, _, _ => none
  | _ + 1, [], _ => none
  | f + 1, (p, d) :: st, many => if (decide (12 < many + 1) || !fitsD c m p d) = true then some p else ffD c m f (flatD p 0 (blocksD d) ++ st) (many + 1)
def firstD (c m : Nat) (ds : List PyData) : Option (List Int) := ffD c m 13 (itemsD [] ds) 0
mutual
/-- every tuple's first word is known -/
def allW (ok : Str → Prop) : PyData → Prop
  | .list xs => allWs ok xs
  | .tuple xs => wordOk ok (.tuple xs) ∧ allWs ok xs
  | _ => True
def allWs (ok : Str → Prop) : List PyData → Prop
  | [] => True
  | x :: xs => allW ok x ∧ allWs ok xs
end
theorem allWs_mem {ok : Str → Prop} : ∀ {xs : List PyData} {x : PyData}, allWs ok xs → x ∈ xs → allW ok x
  | y :: r, x, h, hm => by
    rw [allWs] at h
    rcases List.mem_cons.mp hm with rfl | hm
    · exact h.1
    · exact allWs_mem h.2 hm
theorem allW_word {ok : Str → Prop} {d : PyData} (h : allW ok d) : wordOk ok d := by
  cases d with
  | tuple xs => rw [allW] at h; exact h.1
  | _ => trivial
/-- a statement's blocks are lists, and what stands in them is as good -/
theorem blocks_good {c m : Nat} {d : PyData} {ok : Str → Prop} (h : stmD c m d = true) (hf : ∃ n, fit d n = true) (hw : allW ok d) : ∀ b ∈ blocksD d, ∃ ds, b = .list ds ∧ ds.length ≤ 10000 ∧ (∃ n, ∀ e ∈ ds, fit e n = true) ∧ ∀ e ∈ ds, allW ok e := by
  obtain ⟨n, hf⟩ := hf
  have key : ∀ b : PyData, listD b = true → (∃ n, fit b n = true) → allW ok b → ∃ ds, b = .list ds ∧ ds.length ≤ 10000 ∧ (∃ n, ∀ e ∈ ds, fit e n = true) ∧ ∀ e ∈ ds, allW ok e := fun b hb hfb hwb => by
    obtain ⟨n, hfb⟩ := hfb
    cases b with
    | list ds =>
      obtain ⟨m, _, hl, hg⟩ := fit_list hfb
      rw [allW] at hwb
      exact ⟨ds, rfl, hl, ⟨m, fun e he => fitAll_mem hg he⟩, fun e he => allWs_mem hwb he⟩
    | _ => cases hb
  have items : ∀ xs : List PyData, d = .tuple xs → (∃ k, ∀ e ∈ xs, fit e k = true) ∧ ∀ e ∈ xs, allW ok e := fun xs e => by
    subst e
    obtain ⟨k, _, _, hg⟩ := fit_tuple hf
    rw [allW] at hw
    exact ⟨⟨k, fun e he => fitAll_mem hg he⟩, fun e he => allWs_mem hw.2 he⟩
  rcases sized_cases (stm_yes h) with ⟨a, rfl⟩ | ⟨a, rfl⟩ | ⟨a, rfl⟩ | ⟨a, b, rfl⟩ | ⟨a, b, rfl⟩ | ⟨a, b, rfl⟩ | ⟨a, b, e, rfl⟩
  · intro b hb
    have hb : b ∈ ([] : List PyData) := hb
    cases hb
  · obtain ⟨⟨k, hk⟩, hw2⟩ := items _ rfl
    intro b hb
    have hb : b ∈ [a] := hb
    rw [List.mem_singleton.mp hb]
    have hl : listD a = true := h
    exact key a hl ⟨k, hk a (by simp)⟩ (hw2 a (by simp))
  · intro b hb
    have hb : b ∈ ([] : List PyData) := hb
    cases hb
  · intro y hy
    have hy : y ∈ ([] : List PyData) := hy
    cases hy
  · obtain ⟨⟨k, hk⟩, hw2⟩ := items _ rfl
    intro y hy
    have hy : y ∈ [b] := hy
    rw [List.mem_singleton.mp hy]
    have hl : (cellsD c a && listD b) = true := h
    rw [Bool.and_eq_true] at hl
    exact key b hl.2 ⟨k, hk b (by simp)⟩ (hw2 b (by simp))
  · obtain ⟨⟨k, hk⟩, hw2⟩ := items _ rfl
    intro y hy
    have hy : y ∈ [a, b] := hy
    have hl : (listD a && listD b) = true := h
    rw [Bool.and_eq_true] at hl
    rcases List.mem_cons.mp hy with rfl | hy
    · exact key _ hl.1 ⟨k, hk _ (by simp)⟩ (hw2 _ (by simp))
    · rw [List.mem_singleton.mp hy]
      exact key b hl.2 ⟨k, hk b (by simp)⟩ (hw2 b (by simp))
  · obtain ⟨⟨k, hk⟩, hw2⟩ := items _ rfl
    have hl : (btw 0 ((m : Int) - 1) a && (rowD c b && pairD e)) = true := h
    rw [Bool.and_eq_true, Bool.and_eq_true] at hl
    obtain ⟨x, y, rfl⟩ := pair_t hl.2.2
    have hl : (listD x && listD y) = true := hl.2.2
    rw [Bool.and_eq_true] at hl
    obtain ⟨k2, _, _, hg⟩ := fit_list (hk (.list [x, y]) (by simp))
    have hw3 := hw2 (.list [x, y]) (by simp)
    rw [allW] at hw3
    intro z hz
    have hz : z ∈ [x, y] := hz
    rcases List.mem_cons.mp hz with rfl | hz
    · exact key _ hl.1 ⟨k2, fitAll_mem hg (by simp)⟩ (allWs_mem hw3 (by simp))
    · rw [List.mem_singleton.mp hz]
      exact key y hl.2 ⟨k2, fitAll_mem hg (by simp)⟩ (allWs_mem hw3 (by simp))
theorem blocks_len {d : PyData} : (blocksD d).length ≤ 2 := by
  unfold blocksD
  split
  · split <;> simp
  · split
    · simp
    · split <;> simp
  · split <;> simp
  · simp
theorem itemsD_len {p : List Int} {ds : List PyData} : (itemsD p ds).length = ds.length := by rw [itemsD, List.length_map, List.length_range]
section
variable {P : Program} {w : World} {K : PySem.W.Frag} {mg : Str → Option Value} {base : Heap} {σ : L2.St} {H H' : Hp}
def spFits (K : PySem.W.Frag) (ok : Str → Prop) : Sp := fun vs H Q _ => ∃ (v : V) (d : PyData) (p : Addr) (path : List Int) (c m n : Nat), vs = [v, .ref p, .int (c : Int), .int (m : Int)] ∧ Dp K H v d ∧ SqT K H p (path.map V.int) ∧ path ≠ [] ∧ path.length ≤ 1000 ∧ fit d n = true ∧ wordOk ok d ∧ ∀ H', Ex H H' → Q (.bl (fitsD c m path d)) H'
theorem ev_orV {ta tb : TE} {a b : Bool} (h1 : Ev ta σ H (.bl a)) (h2 : a = false → Ev tb σ H (.bl b)) : Ev (tOrV ta tb) σ H (.bl (a || b)) := fun H1 e Q q =>
  h1 H1 e _ fun H2 e2 => ⟨a, rfl, by
    cases a with
    | true => exact q H2 e2
    | false => exact h2 rfl H2 (e.trans e2) Q fun H3 e3 => q H3 (e2.trans e3)⟩
theorem ev_noBlocks {te : TE} {E : XK} {v : V} {d : PyData} {c m : Nat} (h : Ev te σ H v) (hd : Dp K H v d) (hst : stmD c m d = true) : Ev (tNotT K (tCall (spBlocks K) [] E (tCons te tNil))) σ H (.bl (blocksD d).isEmpty) := fun H1 e Q q =>
  h H1 e _ fun H2 e2 => ⟨v, d, c, m, H2, rfl, Ex.refl H2, dp_ex (e.trans e2) d v hd, hst, fun B bs H3 nB e3 hB hx => ⟨!bs.isEmpty, .inl ⟨bs, sq_of hB, rfl⟩, by
    have l := dpa_len hx
    have z : (!!bs.isEmpty) = (blocksD d).isEmpty := by
      rw [Bool.not_not]
      cases bs with
      | nil => cases hb : blocksD d with
        | nil => rfl
        | cons _ _ => rw [hb] at l; cases l
      | cons _ _ => cases hb : blocksD d with
        | nil => rw [hb] at l; cases l
        | cons _ _ => rfl
    rw [z]
    exact q H3 (e2.trans e3)⟩⟩
theorem lastI_snoc {p : List Int} (h : p ≠ []) : ∃ r, p = r ++ [lastI p] := by
  refine ⟨p.dropLast, ?_⟩
  have e := List.dropLast_concat_getLast h
  have l : lastI p = p.getLast h := by
    rw [lastI, List.getLast_eq_getElem, List.getD_eq_getElem?_getD, List.getElem?_eq_getElem (by have := List.length_pos_iff.mpr h; omega)]
    rfl
  rw [l]
  exact e.symm
theorem ok_fits {f : Addr} {fd : FuncData} {k : Nat} {ok : Str → Prop} {tk tl : Tok} (F : Fun K "fits" "fits" sfits f fd) (z_len : mg "len" = none) (c_LIST_LIMIT : mg "LIST_LIMIT" = some (.int 8 tk)) (c_LAST_LEVEL : mg "LAST_LEVEL" = some (.int 3 tl))
    (Cis_statement : Cal P w K mg base 5 "is_statement" (spStm K ok) []) (Cblocks_of : Cal P w K mg base 1 "blocks_of" (spBlocks K) []) (hk : 5 ≤ k) : FnOk P w K mg base CX0 (k + 1) f fd ["value", "path", "cells", "procedures"] (spFits K ok) := by
  have sc := scfits
  refine F.ok sc (fun vs H Q E h => ?_) (fun cdv A outer s H vs Q E hr h => ?_)
  · obtain ⟨v, d, p, path, c, m, n, rfl, _⟩ := h
    rfl
  · obtain ⟨v, d, p, path, c, m, n, rfl, hd, hp, hne, hpl, hf, hw, q⟩ := h
    refine ⟨_, (pss_cons (ps_if (PW.pt (pw_or (pt_cmpR op_ge (pe_ix ix_tup (pv 1) (pe_un un_neg pe_int) (fun _ _ => rfl)) (pe_glob (v := .int 8) (by rfl) c_LIST_LIMIT ⟨_, rfl⟩) (nomark _)) (pw_or1 (pt_not (pt_val (pe_c Cis_statement hr (by omega) (by rfl) (pa_cons (pv 0) (pa_cons (pv 2) (pa_cons (pv 3) pa_nil)))))))))
      (pss_one (ps_ret pe_bl))
      pss_nil)
      (pss_cons (ps_set (i := 4) sc.nd rfl (by first | exact Or.inl rfl | exact Or.inr rfl) (pe_op op_fdivN (pe_callB call_len_seq (by rfl) z_len (by decide +kernel) (pa_cons (pv 1) pa_nil)) pe_int))
      (pss_one (ps_ret (pe_or (pe_cmpR op_lt (pv 4) (pe_glob (v := .int 3) (by rfl) c_LAST_LEVEL ⟨_, rfl⟩) (nomark _)) (pe_one (pe_notT (pe_c Cblocks_of hr (by omega) (by rfl) (pa_cons (pv 0) pa_nil))))))))), ?_⟩
    obtain ⟨r, hr⟩ := lastI_snoc hne
    have hat : atI (path.map V.int) (-1) = some (.int (lastI path)) := by
      have e : path.map V.int = r.map V.int ++ [.int (lastI path)] := by
        rw [congrArg (List.map V.int) hr, List.map_append]; rfl
      rw [e]
      exact atI_last _ _
    refine q_when (et_or (et_test (ev_op (ev_op (ev_var rfl) (ev_un ev_c ru_neg) (rv_ixT hp hat)) ev_c rv_I0)) fun _ => et_not (et_B (ev_spStm (ev_var rfl) (ev_var rfl) (ev_var rfl) hd hf hw))) (fun hb H1 e1 => ?_) (fun hb H1 e1 => ?_)
    · refine s_ret ev_c fun H2 e2 => ?_
      have z : fitsD c m path d = false := by
        rw [fitsD, hb]; rfl
      rw [z] at q
      exact q H2 (e1.trans e2)
    · refine q_asg (ev_op (ev_lenS (ev_var rfl) (.inr (ex_t e1 hp))) ev_c (rv_I ⟨by decide, by decide⟩)) fun H2 e2 => ?_
      have hst : stmD c m d = true := by
        cases h : stmD c m d with
        | true => rfl
        | false => rw [h] at hb; simp at hb
      have e12 := e1.trans e2
      refine s_ret (ev_orV (ev_op (ev_var rfl) ev_c rv_I0) fun _ => ev_noBlocks (ev_var rfl) (dp_ex e12 _ _ hd) hst) fun H3 e3 => ?_
      have z : fitsD c m path d = (decide (((path.map V.int).length : Int).fdiv 2 < 3) || (blocksD d).isEmpty) := by
        rw [fitsD, hb, List.length_map]
        have : ((path.length : Int).fdiv 2 < 3) ↔ (path.length / 2 < 3) := by
          rw [show ((path.length : Int).fdiv 2) = ((path.length / 2 : Nat) : Int) from by rw [Int.fdiv_eq_ediv_of_nonneg _ (by decide)]; rfl]
          omega
        rw [decide_eq_decide.mpr this]; rfl
      rw [z] at q
      exact q H3 (e12.trans e3)
end
section
variable {P : Program} {w : World} {K : PySem.W.Frag} {mg : Str → Option Value} {base : Heap} {σ : L2.St} {H H' H0 : Hp}
def StkT (K : PySem.W.Frag) (H0 H : Hp) (x : V) (e : List Int × PyData) : Prop := ∃ v, EntT K H x (e.1, v) ∧ Dp K H0 v e.2
abbrev Stk (K : PySem.W.Frag) (H0 H : Hp) : List V → List (List Int × PyData) → Prop := Paired (StkT K H0 H)
theorem stk_ex {xs : List V} {es : List (List Int × PyData)} (h : Stk K H0 H xs es) (k : Ex H H') : Stk K H0 H' xs es := Paired.mapP h fun _ _ ⟨v, x, y⟩ => ⟨v, entT_ex x k, y⟩
theorem stk_updL {D : Addr} {l l' : List V} {xs : List V} {es : List (List Int × PyData)} (h : Stk K H0 H xs es) (hD : H D = some (.lst l)) : Stk K H0 (upd H D (.lst l')) xs es := Paired.mapP h fun _ _ ⟨v, x, y⟩ => ⟨v, entT_updL x hD, y⟩
theorem paired_of_get {α β : Type} {F : α → β → Prop} : ∀ {a : List α} {b : List β}, a.length = b.length → (∀ (i : Nat) (x : α) (y : β), a[i]? = some x → b[i]? = some y → F x y) → Paired F a b
  | [], [], _, _ => .nil
  | x :: a, y :: b, h, k => .cons (k 0 x y rfl rfl) (paired_of_get (by simpa using h) fun i x y hx hy => k (i + 1) x y hx hy)
theorem paired_get {α β : Type} {F : α → β → Prop} : ∀ {a : List α} {b : List β}, Paired F a b → ∀ {i : Nat} {x : α} {y : β}, a[i]? = some x → b[i]? = some y → F x y
  | _, _, .nil, i, x, y, h, _ => by simp at h
  | _, _, .cons h hr, 0, x, y, e, f => by
    cases e; cases f; exact h
  | _, _, .cons h hr, i + 1, x, y, e, f => paired_get hr (i := i) e f
theorem dpa_get {H : Hp} : ∀ {xs : List V} {ds : List PyData}, DpAll K H xs ds → ∀ {i : Nat} {d : PyData}, ds[i]? = some d → ∃ v, xs[i]? = some v ∧ Dp K H v d
  | _, _, .nil, i, d, h => by simp at h
  | _, _, .cons a r, 0, d, h => by cases h; exact ⟨_, rfl, a⟩
  | _, _, .cons a r, i + 1, d, h => dpa_get r (i := i) h
theorem itemsD_get {p : List Int} {ds : List PyData} {i : Nat} (h : i < ds.length) : (itemsD p ds)[i]? = some (p ++ [(i : Int)], ds.getD i .none) := by
  rw [itemsD, List.getElem?_map, List.getElem?_range h]; rfl
theorem getD_some {α : Type} {l : List α} {i : Nat} {x : α} (d : α) (h : l[i]? = some x) : l.getD i d = x := by
  rw [List.getD_eq_getElem?_getD, h]; rfl
theorem stk_ents {ys xs : List V} {ds : List PyData} {path : List Int} (h : Ents K H ys (entsV xs path)) (hx : DpAll K H0 xs ds) : Stk K H0 H ys (itemsD path ds).reverse := by
  have lx := dpa_len hx
  have ly := paired_len h
  rw [entsV, List.length_map, List.length_range] at ly
  refine paired_of_get (by rw [List.length_reverse, itemsD_len, ly, lx]) fun i x y hi hj => ?_
  have hil : i < xs.length := by
    have := (List.getElem?_eq_some_iff.mp hi).1
    omega
  rw [List.getElem?_reverse (by rw [itemsD_len]; omega), itemsD_len, ← lx] at hj
  rw [itemsD_get (by omega)] at hj
  cases hj
  have hj : xs.length - 1 - i < ds.length := by omega
  have hd : ds[xs.length - 1 - i]? = some (ds.getD (xs.length - 1 - i) .none) := by
    rw [List.getElem?_eq_getElem hj, List.getD_eq_getElem?_getD, List.getElem?_eq_getElem hj]; rfl
  obtain ⟨v, hv, dv⟩ := dpa_get hx hd
  have g := paired_get h hi (y := (path ++ [((xs.length - 1 - i : Nat) : Int)], xs.getD (xs.length - 1 - i) .non)) (by rw [entsV, List.getElem?_map, List.getElem?_range hil]; rfl)
  exact ⟨v, by rw [getD_some _ hv] at g; exact g, dv⟩
theorem paired_unsnoc {α β : Type} {F : α → β → Prop} : ∀ {a : List α} {b : List β} {y : β}, Paired F a (b ++ [y]) → ∃ a0 x, a = a0 ++ [x] ∧ Paired F a0 b ∧ F x y
  | _, [], y, .cons h .nil => ⟨[], _, rfl, .nil, h⟩
  | _, z :: b, y, .cons h r => by
    obtain ⟨a0, x, rfl, k1, k2⟩ := paired_unsnoc r
    exact ⟨_ :: a0, x, rfl, .cons h k1, k2⟩
/-- what stands on the stack is good -/
def Gd (ok : Str → Prop) (many : Nat) (e : List Int × PyData) : Prop := e.1 ≠ [] ∧ e.1.length ≤ 2 * many + 1 ∧ (∃ n, fit e.2 n = true) ∧ allW ok e.2
theorem gd_items {ok : Str → Prop} {many : Nat} {p : List Int} {ds : List PyData} (hp : p.length ≤ 2 * many) (hf : ∃ n, ∀ e ∈ ds, fit e n = true) (hw : ∀ e ∈ ds, allW ok e) : ∀ e ∈ itemsD p ds, Gd ok many e := by
  intro e he
  rw [itemsD, List.mem_map] at he
  obtain ⟨i, hi, rfl⟩ := he
  rw [List.mem_range] at hi
  have hm : ds.getD i .none ∈ ds := by
    rw [List.getD_eq_getElem?_getD, List.getElem?_eq_getElem hi]
    exact List.getElem_mem hi
  obtain ⟨n, hf⟩ := hf
  exact ⟨by simp, by simp; omega, ⟨n, hf _ hm⟩, hw _ hm⟩
theorem gd_up {ok : Str → Prop} {a b : Nat} {e : List Int × PyData} (h : Gd ok a e) (hab : a ≤ b) : Gd ok b e := ⟨h.1, by have := h.2.1; omega, h.2.2⟩
theorem flatD_cons {p : List Int} {k : Nat} {bs : List PyData} (h : k < bs.length) : flatD p k (bs.drop k) = itemsD (p ++ [(k : Int)]) (elems (bs.getD k .none)) ++ flatD p (k + 1) (bs.drop (k + 1)) := by
  rw [List.drop_eq_getElem_cons h, flatD, List.getD_eq_getElem?_getD, List.getElem?_eq_getElem h]; rfl
end
section
variable {P : Program} {w : World} {K : PySem.W.Frag} {mg : Str → Option Value} {base : Heap} {σ : L2.St} {H H' H0 : Hp}
theorem ev_spFits {t1 t2 t3 t4 : TE} {E : XK} {v : V} {d : PyData} {p : Addr} {path : List Int} {ok : Str → Prop} {c m n : Nat} (h1 : Ev t1 σ H v) (h2 : Ev t2 σ H (.ref p)) (h3 : Ev t3 σ H (.int (c : Int))) (h4 : Ev t4 σ H (.int (m : Int))) (hd : Dp K H v d) (hp : SqT K H p (path.map V.int)) (hne : path ≠ []) (hl : path.length ≤ 1000) (hf : fit d n = true) (hw : wordOk ok d) :
    Ev (tCall (spFits K ok) [] E (tCons t1 (tCons t2 (tCons t3 (tCons t4 tNil))))) σ H (.bl (fitsD c m path d)) :=
  ev_call (ea_cons h1 (ea_cons h2 (ea_cons h3 (ea_cons h4 ea_nil)))) fun H1 e Q q _ => ⟨v, d, p, path, c, m, n, rfl, dp_ex e d v hd, ex_t e hp, hne, hl, hf, hw, q⟩
theorem q_while {c : TT} {tb tz : TS} {D : Ends} (Pv : L2.St → Hp → Prop) (μ : L2.St → Hp → Nat) (h0 : Pv σ H)
    (hs : ∀ σ H, Pv σ H → c σ H fun b H1 => if b = true then tb { nx := fun σ' H' => Pv σ' H' ∧ μ σ' H' < μ σ H, rt := D.rt, bk := tz D, ct := fun σ' H' => Pv σ' H' ∧ μ σ' H' < μ σ H } σ H1 else tz D σ H1)
    (mono : ∀ σ H (Q Q' : Bool → Hp → Prop), (∀ b H1, Q b H1 → Q' b H1) → c σ H Q → c σ H Q') : tSeq (tWhile c tb) tz D σ H :=
  while_by (D := { D with nx := tz D }) Pv μ h0 hs mono
theorem gd_flat {ok : Str → Prop} {many : Nat} {p : List Int} (hp : p.length + 1 ≤ 2 * many) : ∀ (bs : List PyData) (k : Nat), (∀ b ∈ bs, ∃ ds, b = .list ds ∧ ds.length ≤ 10000 ∧ (∃ n, ∀ e ∈ ds, fit e n = true) ∧ ∀ e ∈ ds, allW ok e) → ∀ e ∈ flatD p k bs, Gd ok many e
  | [], k, _, e, he => by cases he
  | b :: r, k, h, e, he => by
    obtain ⟨ds, rfl, _, hf, hw⟩ := h b (List.mem_cons_self ..)
    rw [flatD, List.mem_append] at he
    rcases he with he | he
    · exact gd_items (by simp; omega) hf hw e he
    · exact gd_flat hp r (k + 1) (fun b hb => h b (List.mem_cons_of_mem _ hb)) e he
theorem flat_len {p : List Int} : ∀ (bs : List PyData) (k : Nat), (∀ b ∈ bs, (elems b).length ≤ 10000) → (flatD p k bs).length ≤ 10000 * bs.length
  | [], k, _ => by simp [flatD]
  | b :: r, k, h => by
    have h1 := h b (List.mem_cons_self ..)
    have h2 := flat_len (p := p) r (k + 1) fun b hb => h b (List.mem_cons_of_mem _ hb)
    rw [flatD, List.length_append, itemsD_len, List.length_cons]
    omega
def spFF (K : PySem.W.Frag) (ok : Str → Prop) : Sp := fun vs H Q _ => ∃ (v : V) (ds : List PyData) (c m n : Nat), vs = [v, .int (c : Int), .int (m : Int)] ∧ Dp K H v (.list ds) ∧ fit (.list ds) n = true ∧ (∀ e ∈ ds, allW ok e) ∧
  (∀ H', Ex H H' → firstD c m ds = none → Q .non H') ∧ ∀ p t H', Ex H H' → firstD c m ds = some p → SqT K H' t (p.map V.int) → Q (.ref t) H'
def mu4 (σ : L2.St) (_ : Hp) : Nat := match σ[4]? with
  | some (some (V.int i)) => (13 - i).toNat
  | _ => 0
theorem ok_first_fault {f : Addr} {fd : FuncData} {k : Nat} {ok : Str → Prop} {tk : Tok} (F : Fun K "first_fault" "first_fault" sfirst_fault f fd) (z_range : mg "range" = none) (z_reversed : mg "reversed" = none) (z_len : mg "len" = none) (c_PROCEDURE_LIMIT : mg "PROCEDURE_LIMIT" = some (.int 12 tk))
    (Centries : Cal P w K mg base 1 "entries" (spEntries K) []) (Cfits : Cal P w K mg base 6 "fits" (spFits K ok) []) (Cblocks_of : Cal P w K mg base 1 "blocks_of" (spBlocks K) []) (hk : 6 ≤ k) : FnOk P w K mg base CX0 (k + 1) f fd ["body", "cells", "procedures"] (spFF K ok) := by
  have sc := scfirst_fault
  refine F.ok sc (fun vs H Q E h => ?_) (fun cdv A outer s H vs Q E hr h => ?_)
  · obtain ⟨v, ds, c, m, n, rfl, _⟩ := h
    rfl
  · obtain ⟨v, ds, c, m, n, rfl, hd, hf, hw, q1, q2⟩ := h
    refine ⟨_, (pss_cons (ps_set (i := 3) sc.nd rfl (by first | exact Or.inl rfl | exact Or.inr rfl) (pe_c Centries hr (by omega) (by rfl) (pa_cons (pv 0) (pa_cons (pe_tup pa_nil) pa_nil))))
      (pss_cons (ps_set (i := 4) sc.nd rfl (by first | exact Or.inl rfl | exact Or.inr rfl) pe_int)
      (pss_cons (ps_while PassesOwn.never (pt_truth (pv 3) (by intro _; rfl))
      (pss_cons (ps_asg (pe_bm0 PySem.F.plainAttrs_list PySem.F.slot_list_pop PySem.F.type_list_pop mt_pop (pv 3)) (pg_tup (by rfl) (pgs_cons (pg_name (i := 5) sc.nd rfl (by first | exact Or.inl rfl | exact Or.inr rfl)) (pgs_cons (pg_name (i := 6) sc.nd rfl (by first | exact Or.inl rfl | exact Or.inr rfl)) pgs_nil))))
      (pss_cons (ps_set (i := 4) sc.nd rfl (by first | exact Or.inl rfl | exact Or.inr rfl) (pe_op op_add (pv 4) pe_int))
      (pss_cons (ps_if (PW.pt (pw_or (pt_cmpR op_gt (pv 4) (pe_glob (v := .int 12) (by rfl) c_PROCEDURE_LIMIT ⟨_, rfl⟩) (nomark _)) (pw_or1 (pt_not (pt_val (pe_c Cfits hr (by omega) (by rfl) (pa_cons (pv 6) (pa_cons (pv 5) (pa_cons (pv 1) (pa_cons (pv 2) pa_nil))))))))))
      (pss_one (ps_ret (pv 5)))
      pss_nil)
      (pss_cons (ps_set (i := 7) sc.nd rfl (by first | exact Or.inl rfl | exact Or.inr rfl) (pe_c Cblocks_of hr (by omega) (by rfl) (pa_cons (pv 6) pa_nil)))
      (pss_one (ps_for PassesOwn.never rfl (pi_revR (by rfl) z_reversed (prg_1 (by rfl) z_range (pe_callB call_len_seq (by rfl) z_len (by decide +kernel) (pa_cons (pv 7) pa_nil)))) (pg_name (i := 8) sc.nd rfl (by first | exact Or.inl rfl | exact Or.inr rfl))
      (pss_one (ps_expr (pe_bm PySem.F.plainAttrs_list PySem.F.slot_list_extend PySem.F.type_list_extend mt_extend (pv 3) (pa_cons (pe_c Centries hr (by omega) (by rfl) (pa_cons (pe_ix ix_list (pv 7) (pv 8) (fun _ _ => rfl)) (pa_cons (pe_tup (pa_starK (K := K) rfl (pv 5) (pa_cons (pv 8) pa_nil))) pa_nil))) pa_nil)))))))))))
      (pss_one (ps_ret pe_non))))), ?_⟩
    obtain ⟨b, xs, rfl, hb, hx⟩ := dp_lst hd
    obtain ⟨fm, _, hl, hg⟩ := fit_list hf
    have lx := dpa_len hx
    refine q_run ?_
    refine ⟨.ref b, rfl, (by show 0 ≤ sizeLine; decide), fun T nT => ?_⟩
    refine ⟨b, T, xs, [], rfl, ex_l (Ex.new nT) hb, st_of upd_same, by omega, by simp, fun D ys H1 nD e1 hD hE => ?_⟩
    have nD0 : H D = none := new_ex (Ex.new nT) nD
    have e01 : Ex H H1 := (Ex.new nT).trans e1
    refine q_asg ev_c fun H2 e2 => ?_
    refine q_while (fun σ' H' => ∃ (st : List (List Int × PyData)) (many : Nat) (ys : List V) (x5 x6 x7 x8 : Option V), σ' = [some (.ref b), some (.int (c : Int)), some (.int (m : Int)), some (.ref D), some (.int (many : Int)), x5, x6, x7, x8] ∧ Ex H H' ∧ H' D = some (.lst ys) ∧ Stk K H H' ys st.reverse ∧ many ≤ 12 ∧ ffD c m (13 - many) st many = firstD c m ds ∧ st.length ≤ 10000 + 20000 * many ∧ ∀ e ∈ st, Gd ok many e) mu4
      ⟨itemsD [] ds, 0, ys, none, none, none, none, rfl, e01.trans e2, e2 _ _ hD, stk_ex (stk_ents hE hx) e2, by omega, rfl, by rw [itemsD_len]; omega, gd_items (by simp) ⟨fm, fun e he => fitAll_mem hg he⟩ hw⟩
      (fun σ' H' hP => ?_) (fun σ' H' Q' Q'' h ⟨v, hv, kk, tt, q⟩ => ⟨v, hv, kk, tt, h _ _ q⟩)
    obtain ⟨st, many, ys, x5, x6, x7, x8, rfl, eH, hD, hS, hm, hff, hsl, hgd⟩ := hP
    refine ⟨.ref D, rfl, !ys.isEmpty, .inl ⟨ys, sq_of hD, rfl⟩, ?_⟩
    cases st with
    | nil =>
      cases hS
      refine s_ret ev_c fun H3 e3 => q1 H3 (eH.trans e3) ?_
      rw [← hff, show 13 - many = (12 - many) + 1 by omega]; rfl
    | cons e0 st =>
      obtain ⟨p, d⟩ := e0
      rw [List.reverse_cons] at hS
      obtain ⟨ys0, x, rfl, hS0, v, hT, dv⟩ := paired_unsnoc hS
      have hne : (!(ys0 ++ [x]).isEmpty) = true := by simp
      rw [if_pos hne]
      obtain ⟨t, pa, rfl, ht, hpa⟩ := entT_updL (l' := (ys0 ++ [x]).dropLast) hT hD
      have hS1 := stk_updL (l' := (ys0 ++ [V.ref t]).dropLast) hS0 hD
      have e1' := eH.mut (o := .lst (ys0 ++ [V.ref t]).dropLast) nD0
      have hD1 : (upd H' D (.lst (ys0 ++ [V.ref t]).dropLast)) D = some (.lst ys0) := by rw [upd_same, List.dropLast_concat]
      refine ⟨.ref D, rfl, .inl ⟨rfl, _, sq_of hD⟩, D, ys0 ++ [V.ref t], V.ref t, rfl, rfl, hD, by simp, ?_⟩
      generalize upd H' D (.lst (ys0 ++ [V.ref t]).dropLast) = H3 at ht hpa hS1 e1' hD1 ⊢
      refine ⟨t, _, rfl, ht, rfl, .ref pa, _, rfl, v, _, rfl, rfl, ?_⟩
      dsimp only
      refine q_asg (i := 4) (v := .int ((many + 1 : Nat) : Int)) ?ev fun H4 e4 => ?_
      case ev => exact ev_is (ev_op (ev_var rfl) ev_c rv_I0) (by rw [Int.natCast_add]; rfl)
      have e14 := e1'.trans e4
      have hgp := hgd (p, d) (List.mem_cons_self ..)
      obtain ⟨hpn, hpl, ⟨nf, hfd⟩, hwd⟩ := hgp
      have hpl : p.length ≤ 2 * many + 1 := hpl
      refine q_when (et_or (et_test (ev_op (ev_var rfl) ev_c rv_I0)) fun _ => et_not (et_B (ev_spFits (path := p) (d := d) (ev_var rfl) (ev_var rfl) (ev_var rfl) (ev_var rfl) (dp_ex e14 _ _ dv) (ex_t e4 hpa) hpn (by omega) hfd (allW_word hwd)))) (fun hc H5 e5 => ?_) (fun hc H5 e5 => ?_)
      · refine s_ret (ev_var rfl) fun H6 e6 => q2 p pa H6 ((e14.trans e5).trans e6) ?_ (ex_t ((e4.trans e5).trans e6) hpa)
        rw [← hff, show 13 - many = (12 - many) + 1 by omega, ffD, if_pos]
        rw [← hc]
        exact congrArg (· || _) (decide_eq_decide.mpr (by omega))
      · have hc2 : (decide (12 < many + 1) || !fitsD c m p d) = false := by
          rw [← hc]
          exact congrArg (· || _) (decide_eq_decide.mpr (by omega))
        rw [Bool.or_eq_false_iff] at hc2
        have hm2 : many + 1 ≤ 12 := by
          have := of_decide_eq_false hc2.1
          omega
        have hfit : fitsD c m p d = true := by simpa using hc2.2
        have hst : stmD c m d = true := by
          cases h : stmD c m d with
          | true => rfl
          | false => rw [fitsD, h] at hfit; simp at hfit
        rw [show 13 - many = (12 - many) + 1 by omega, ffD, if_neg (by rw [hc2.1, hc2.2]; simp), show 12 - many = 13 - (many + 1) by omega] at hff
        have hbg := blocks_good hst ⟨nf, hfd⟩ hwd
        have hel : ∀ b ∈ blocksD d, (elems b).length ≤ 10000 := fun b hb => by
          obtain ⟨ds', rfl, hl', _⟩ := hbg b hb
          exact hl'
        have hnb := blocks_len (d := d)
        have e15 := e14.trans e5
        refine q_run ?_
        refine ⟨v, rfl, v, d, c, m, H, rfl, e15, dv, hst, fun B bs H6 nB e6 hB hxb => ?_⟩
        have lb := dpa_len hxb
        have hBD : B ≠ D := fun e => by
          rw [e] at nB
          rw [e5 _ _ (e4 _ _ hD1)] at nB
          cases nB
        have e16 := e15.trans e6
        refine ⟨.ref B, rfl, B, bs, rfl, .inl (sq_of hB), (bs.length : Int), rfl, by omega, by omega, by omega, by omega, ?_⟩
        have hn : ((bs.length : Int) - 0).toNat = bs.length := by omega
        rw [hn]
        have wk := (walk_rangeC (lo := (0 : Int) + ((bs.length : Nat) : Int) - 1) (c := -1) (n := bs.length)).mono (G' := fun _ => True) (Y' := fun i H x H' => H' = H ∧ x = .int ((bs.length - 1 - i : Nat) : Int)) (fun _ _ => trivial) (fun i H x H' hi _ y => ⟨y.1, by rw [y.2]; exact congrArg V.int (by omega)⟩)
        refine for_it wk (fun i σ'' H'' => ∃ (x8 : Option V) (ys' : List V), σ'' = [some (.ref b), some (.int (c : Int)), some (.int (m : Int)), some (.ref D), some (.int ((many + 1 : Nat) : Int)), some (.ref pa), some v, some (.ref B), x8] ∧ Ex H H'' ∧ H'' B = some (.lst bs) ∧ H'' D = some (.lst ys') ∧ SqT K H'' pa (p.map V.int) ∧
            Stk K H H'' ys' (flatD p (bs.length - i) ((blocksD d).drop (bs.length - i)) ++ st).reverse)
          ⟨x8, ys0, rfl, e16, hB, e6 _ _ (e5 _ _ (e4 _ _ hD1)), ex_t ((e4.trans e5).trans e6) hpa, ?h0⟩ (fun _ _ _ _ _ => trivial) (fun i x σ'' H'' Hy hi hP y => ?hstep) (fun σ'' H'' hP => ?hend)
        case h0 =>
          rw [Nat.sub_zero, List.drop_of_length_le (by omega)]
          exact stk_ex hS1 ((e4.trans e5).trans e6)
        case hend =>
          obtain ⟨x8', ys', rfl, eH2, hB2, hD2, hp2, hS2⟩ := hP
          rw [Nat.sub_self, List.drop_zero] at hS2
          refine ⟨⟨_, many + 1, ys', some (.ref pa), some v, some (.ref B), x8', rfl, eH2, hD2, hS2, hm2, hff, ?_, ?_⟩, ?_⟩
          · have := flat_len (p := p) (blocksD d) 0 hel
            rw [List.length_cons] at hsl
            rw [List.length_append]
            omega
          · intro e he
            rw [List.mem_append] at he
            rcases he with he | he
            · exact gd_flat (by omega) _ 0 hbg e he
            · exact gd_up (hgd e (List.mem_cons_of_mem _ he)) (by omega)
          · show (13 - ((many + 1 : Nat) : Int)).toNat < (13 - (many : Int)).toNat
            omega
        case hstep =>
          obtain ⟨x8', ys', rfl, eH2, hB2, hD2, hp2, hS2⟩ := hP
          obtain ⟨rfl, rfl⟩ := y
          generalize hj : bs.length - 1 - i = j at *
          have e1 : bs.length - (i + 1) = j := by omega
          have e2 : bs.length - i = j + 1 := by omega
          have hjl : j < (blocksD d).length := by omega
          rw [e2] at hS2
          obtain ⟨dsj, hdj, hlj, hfj, hwj⟩ := hbg _ (List.getElem_mem hjl)
          have hgj : (blocksD d)[j]? = some (.list dsj) := by rw [List.getElem?_eq_getElem hjl, hdj]
          obtain ⟨vb, hvb, dvb⟩ := dpa_get hxb hgj
          obtain ⟨bb, xsj, rfl, hsb, hxj⟩ := dp_lst dvb
          have lj := dpa_len hxj
          have ly := paired_len hS2
          have hlen : (flatD p (j + 1) ((blocksD d).drop (j + 1)) ++ st).length ≤ 300000 := by
            have := flat_len (p := p) ((blocksD d).drop (j + 1)) (j + 1) fun b hb => hel b (List.mem_of_mem_drop hb)
            rw [List.length_drop] at this
            rw [List.length_cons] at hsl
            rw [List.length_append]
            omega
          rw [List.length_reverse] at ly
          refine ⟨.ref D, rfl, .inl ⟨rfl, _, sq_of hD2⟩, ?_⟩
          refine ⟨.ref B, rfl, .int (j : Int), rfl, B, bs, (j : Int), .ref bb, rfl, rfl, sq_of hB2, atI_nat hvb, ?_⟩
          refine ⟨.ref pa, rfl, pa, p.map V.int, rfl, .inl hp2, .int (j : Int), rfl, sz_of (by simp; omega), fun T2 nT2 => ?_⟩
          have eT := Ex.new (o := .tup (p.map V.int ++ [V.int (j : Int)])) nT2
          refine ⟨bb, T2, xsj, p ++ [(j : Int)], rfl, ex_l (eH2.trans eT) hsb, st_of (by rw [upd_same, List.map_append]; rfl), by omega, by simp; omega, fun D2 ys2 H7 nD2 e7 hD2' hE => ?_⟩
          have e27 := eT.trans e7
          have hD7 := e27 _ _ hD2
          refine ⟨D, D2, ys', ys2, rfl, rfl, hD7, hD2', ?_, ?_⟩
          · have l2 := paired_len hE
            rw [entsV, List.length_map, List.length_range] at l2
            exact Nat.le_trans (m := 400000) (by omega) (by decide)
          · refine ⟨some (.int (j : Int)), ys' ++ ys2, rfl, (eH2.trans e27).mut nD0, by rw [upd_ne hBD]; exact e27 _ _ hB2, upd_same, sqT_updL (ex_t e27 hp2) hD7, ?_⟩
            rw [e1, flatD_cons hjl, getD_some _ hgj, List.append_assoc, List.reverse_append]
            exact paired_app (stk_updL (stk_ex hS2 e27) hD7) (stk_updL (stk_ents hE hxj) hD7)
end
abbrev scheck_bodies : Stmt := topS 46
theorem sccheck_bodies : FnScope ["cells", "bodies", "procedure", "body", "path"] ["cells", "bodies"] (defScope scheck_bodies) := ⟨rfl, rfl, rfl, by decide +kernel, rfl, by decide +kernel, by decide +kernel⟩
abbrev sBook___init__ : Stmt := inClass (topS 48) 0
theorem scBook___init__ : FnScope ["self", "cells", "bodies"] ["self", "cells", "bodies"] (defScope sBook___init__) := ⟨rfl, rfl, rfl, by decide +kernel, rfl, by decide +kernel, by decide +kernel⟩
abbrev sBook_cells : Stmt := inClass (topS 48) 1
theorem scBook_cells : FnScope ["self"] ["self"] (defScope sBook_cells) := ⟨rfl, rfl, rfl, by decide +kernel, rfl, by decide +kernel, by decide +kernel⟩
abbrev sBook_bodies : Stmt := inClass (topS 48) 2
theorem scBook_bodies : FnScope ["self"] ["self"] (defScope sBook_bodies) := ⟨rfl, rfl, rfl, by decide +kernel, rfl, by decide +kernel, by decide +kernel⟩
abbrev sBook_calls : Stmt := inClass (topS 48) 3
theorem scBook_calls : FnScope ["self"] ["self"] (defScope sBook_calls) := ⟨rfl, rfl, rfl, by decide +kernel, rfl, by decide +kernel, by decide +kernel⟩
abbrev sBook___len__ : Stmt := inClass (topS 48) 4
theorem scBook___len__ : FnScope ["self"] ["self"] (defScope sBook___len__) := ⟨rfl, rfl, rfl, by decide +kernel, rfl, by decide +kernel, by decide +kernel⟩
abbrev sBook___getitem__ : Stmt := inClass (topS 48) 5
theorem scBook___getitem__ : FnScope ["self", "at", "procedure", "path", "statement"] ["self", "at"] (defScope sBook___getitem__) := ⟨rfl, rfl, rfl, by decide +kernel, rfl, by decide +kernel, by decide +kernel⟩
abbrev sBook___eq__ : Stmt := inClass (topS 48) 7
theorem scBook___eq__ : FnScope ["self", "other"] ["self", "other"] (defScope sBook___eq__) := ⟨rfl, rfl, rfl, by decide +kernel, rfl, by decide +kernel, by decide +kernel⟩
abbrev sstatement_at : Stmt := topS 47
theorem scstatement_at : FnScope ["body", "path", "place", "statement", "step"] ["body", "path"] (defScope sstatement_at) := ⟨rfl, rfl, rfl, by decide +kernel, rfl, by decide +kernel, by decide +kernel⟩
abbrev splaces : Stmt := topS 39
theorem scplaces : FnScope ["body", "rows", "index", "statement", "number", "block", "path", "inner"] ["body"] (defScope splaces) := ⟨rfl, rfl, rfl, by decide +kernel, rfl, by decide +kernel, by decide +kernel⟩
section
variable {P : Program} {w : World} {K : PySem.W.Frag} {mg : Str → Option Value} {base : Heap} {σ : L2.St} {H H' H0 : Hp}
theorem ev_spFF0 {t1 t2 t3 : TE} {E : XK} {v : V} {ds : List PyData} {ok : Str → Prop} {c m n : Nat} (h1 : Ev t1 σ H v) (h2 : Ev t2 σ H (.int (c : Int))) (h3 : Ev t3 σ H (.int (m : Int))) (hd : Dp K H v (.list ds)) (hf : fit (.list ds) n = true) (hw : ∀ e ∈ ds, allW ok e) (h0 : firstD c m ds = none) :
    Ev (tCall (spFF K ok) [] E (tCons t1 (tCons t2 (tCons t3 tNil)))) σ H .non :=
  ev_call (ea_cons h1 (ea_cons h2 (ea_cons h3 ea_nil))) fun H1 e Q q _ => ⟨v, ds, c, m, n, rfl, dp_ex e _ v hd, hf, hw, fun H' e' _ => q H' e', fun p t H' e' h _ => by rw [h0] at h; cases h⟩
/-- bodies without a fault -/
def okBodies (ok : Str → Prop) (c : Nat) (bs : List PyData) : Prop := 1 ≤ bs.length ∧ bs.length ≤ 3 ∧ ∀ b ∈ bs, ∃ ds, b = .list ds ∧ (∀ e ∈ ds, allW ok e) ∧ firstD c bs.length ds = none
def spChk (K : PySem.W.Frag) (ok : Str → Prop) : Sp := fun vs H Q _ => ∃ (v : V) (bs : List PyData) (c n : Nat), vs = [.int (c : Int), v] ∧ Dp K H v (.list bs) ∧ fit (.list bs) n = true ∧ okBodies ok c bs ∧ ∀ H', Ex H H' → Q .non H'
theorem ok_check_bodies {f : Addr} {fd : FuncData} {k : Nat} {ok : Str → Prop} {tk : Tok} (F : Fun K "check_bodies" "check_bodies" scheck_bodies f fd) (z_isinstance : mg "isinstance" = none) (z_list : mg "list" = none) (z_len : mg "len" = none) (z_enumerate : mg "enumerate" = none) (c_MOST_PROCEDURES : mg "MOST_PROCEDURES" = some (.int 3 tk))
    (Cfirst_fault : Cal P w K mg base 7 "first_fault" (spFF K ok) []) (hk : 7 ≤ k) : FnOk P w K mg base CX0 (k + 1) f fd ["cells", "bodies"] (spChk K ok) := by
  have sc := sccheck_bodies
  refine F.ok sc (fun vs H Q E h => ?_) (fun cdv A outer s H vs Q E hr h => ?_)
  · obtain ⟨v, bs, c, n, rfl, _⟩ := h
    rfl
  · obtain ⟨v, bs, c, n, rfl, hd, hf, hok, q⟩ := h
    refine ⟨_, (pss_cons (ps_if (PW.pt (pw_or (pt_not (pt_val (pe_callB call_isi (by rfl) z_isinstance (by decide +kernel) (pa_cons (pv 1) (pa_cons (pe_bltn (v := .ty "list") (by rfl) z_list (by decide +kernel) rfl) pa_nil))))) (pw_or1 (pt_not (pt_chain op_le op_le pe_int (pe_callB call_len_seq (by rfl) z_len (by decide +kernel) (pa_cons (pv 1) pa_nil)) (pe_glob (v := .int 3) (by rfl) c_MOST_PROCEDURES ⟨_, rfl⟩))))))
      (pss_one ps_never)
      pss_nil)
      (pss_one (ps_for PassesOwn.never rfl (pi_enum (by rfl) z_enumerate (pa_cons (pv 1) pa_nil)) (pg_tup (by rfl) (pgs_cons (pg_name (i := 2) sc.nd rfl (by first | exact Or.inl rfl | exact Or.inr rfl)) (pgs_cons (pg_name (i := 3) sc.nd rfl (by first | exact Or.inl rfl | exact Or.inr rfl)) pgs_nil)))
      (pss_cons (ps_if (pt_not (pt_val (pe_callB call_isi (by rfl) z_isinstance (by decide +kernel) (pa_cons (pv 3) (pa_cons (pe_bltn (v := .ty "list") (by rfl) z_list (by decide +kernel) rfl) pa_nil)))))
      (pss_one ps_never)
      pss_nil)
      (pss_cons (ps_set (i := 4) sc.nd rfl (by first | exact Or.inl rfl | exact Or.inr rfl) (pe_c Cfirst_fault hr (by omega) (by rfl) (pa_cons (pv 3) (pa_cons (pv 0) (pa_cons (pe_callB call_len_seq (by rfl) z_len (by decide +kernel) (pa_cons (pv 1) pa_nil)) pa_nil)))))
      (pss_one (ps_if (pt_cmpR op_notN (pv 4) pe_non (nomark _))
      (pss_one ps_never)
      pss_nil))))))), ?_⟩
    obtain ⟨l1, l3, hall⟩ := hok
    have kd := kitB_isa (PyData.list bs)
    have hd0 := hd
    obtain ⟨b, xs, rfl, hb, hx⟩ := dp_lst hd
    obtain ⟨fm, _, hl, hg⟩ := fit_list hf
    have lx := dpa_len hx
    refine q_when (b := false) (et_or (a := false) (b := false) (et_is (et_not (et_B (ev_isi hd0 (ev_var rfl) kd.2.2.2.1))) (by rw [isa_listD rfl]; rfl)) fun _ => et_is (et_not (et_test (ev_chain (b := decide ((xs.length : Int) ≤ 3)) ev_c (ev_lenS (ev_var rfl) (.inl hb)) rv_I0 fun _ => ⟨ev_c, rv_I0⟩))) ?hlen) (fun h => (nomatch h)) fun _ H1 e1 => ?_
    case hlen =>
      rw [decide_eq_true (by omega : (1 : Int) ≤ (xs.length : Int)), decide_eq_true (by omega : (xs.length : Int) ≤ 3)]; rfl
    refine ⟨.ref b, rfl, b, xs, rfl, ex_l e1 hb, ?_⟩
    refine for_it walk_enum (fun i σ' H' => ∃ x2 x3 x4 : Option V, σ' = [some (.int (c : Int)), some (.ref b), x2, x3, x4] ∧ Ex H H') ⟨none, none, none, rfl, e1⟩ (fun i σ' H' _ ⟨_, _, _, _, e⟩ => ex_l e hb) (fun i x σ' H' H'' hi hP y => ?_) (fun σ' H' ⟨_, _, _, _, e⟩ => q H' e)
    obtain ⟨x2, x3, x4, rfl, e2⟩ := hP
    obtain ⟨T, x, y, rfl, nT, rfl, hx', hy⟩ := y
    cases hx'
    have eT := e2.trans (Ex.new (o := .tup [.int (i : Nat), y]) nT)
    have hib : i < bs.length := by omega
    obtain ⟨ds, hds, hwd, h0⟩ := hall _ (List.getElem_mem hib)
    have hgi : bs[i]? = some (.list ds) := by rw [List.getElem?_eq_getElem hib, hds]
    obtain ⟨y', hy', dy⟩ := dpa_get hx hgi
    have hyy : some y' = some y := hy'.symm.trans hy
    cases hyy
    have kd2 := kitB_isa (PyData.list ds)
    have fds : fit (.list ds) fm = true := by rw [← hds]; exact fitAll_mem hg (List.getElem_mem hib)
    refine ⟨T, _, rfl, st_of upd_same, rfl, _, _, rfl, _, _, rfl, rfl, ?_⟩
    dsimp only
    refine q_when (b := false) (et_is (et_not (et_B (ev_isi (dp_ex eT _ _ dy) (ev_var rfl) kd2.2.2.2.1))) (by rw [isa_listD rfl]; rfl)) (fun h => (nomatch h)) fun _ H3 e3 => ?_
    have e23 := eT.trans e3
    refine q_asg (ev_spFF0 (m := bs.length) (ev_var rfl) (ev_var rfl) (ev_is (ev_lenS (ev_var rfl) (.inl (ex_l e23 hb))) (by rw [lx])) (dp_ex e23 _ _ dy) fds hwd h0) fun H4 e4 => ?_
    refine s_when (b := false) (et_is (et_test (ev_op (z := .bl (!decide (V.non = V.non))) (ev_var rfl) ev_c (rv_val fun _ _ _ q => ⟨rfl, q⟩))) (by simp)) (fun h => (nomatch h)) fun _ H5 e5 => ?_
    exact ⟨_, _, _, rfl, (e23.trans e4).trans e5⟩
end
open C8 (Mak pe_mk)
section
variable {P : Program} {w : World} {K : PySem.W.Frag} {mg : Str → Option Value} {base : Heap} {σ : L2.St} {H H' H0 : Hp}
theorem ev_spChk {t1 t2 : TE} {E : XK} {v : V} {bs : List PyData} {ok : Str → Prop} {c n : Nat} (h1 : Ev t1 σ H (.int (c : Int))) (h2 : Ev t2 σ H v) (hd : Dp K H v (.list bs)) (hf : fit (.list bs) n = true) (hok : okBodies ok c bs) :
    Ev (tCall (spChk K ok) [] E (tCons t1 (tCons t2 tNil))) σ H .non :=
  ev_call (ea_cons h1 (ea_cons h2 ea_nil)) fun H1 e Q q _ => ⟨v, bs, c, n, rfl, dp_ex e _ v hd, hf, hok, q⟩
/-- a book: its cells, and a copy of its bodies -/
def IsBook (N : Addr → Prop) (C : Addr) (H : Hp) (x : Addr) (c : Nat) (bs : List PyData) : Prop := ∃ dx v, H x = some (.ins C dx [("_cells", .int (c : Int)), ("_bodies", v)]) ∧ Dq N H v (.list bs)
def spInit (K : PySem.W.Frag) (ok : Str → Prop) (C : Addr) (cn : Nat) : Sp := fun vs H Q _ => ∃ (x dx : Addr) (v : V) (bs : List PyData) (c n : Nat) (Hb : Hp), vs = [.ref x, .int (c : Int), v] ∧ H x = some (.ins C dx []) ∧ Hb x = none ∧ Ex Hb H ∧ Dp K Hb v (.list bs) ∧ fit (.list bs) n = true ∧ cn = n + 1 ∧ 1 ≤ c ∧ c ≤ 3 ∧ okBodies ok c bs ∧
  ∀ H', Ex Hb H' → IsBook (New Hb) C H' x c bs → Q .non H'
theorem mak_Book {C f : Addr} {fd : FuncData} {k cn : Nat} {ok : Str → Prop} {tk : Tok} (M : Mk K C f) (hm : mg "Book" = some (.ref C)) (F : Fun K "__init__" "Book.__init__" sBook___init__ f fd) (b : Binds K fd ["self", "cells", "bodies"] []) (hc : Cls K C) (n1 : NoAttr K C "_cells") (n2 : NoAttr K C "_bodies") (c_MOST_CELLS : mg "MOST_CELLS" = some (.int 3 tk))
    (Cis_between : Cal P w K mg base 2 "is_between" (spBtw K) []) (Ccheck_bodies : Cal P w K mg base 8 "check_bodies" (spChk K ok) []) (Ccopied : Cal P w K mg base cn "copied" (spCopy K cn) []) (hk : 8 ≤ k) (hcn : cn ≤ k) : Mak P w K mg base (k + 1) "Book" C (spInit K ok C cn) [] := by
  have sc := scBook___init__
  refine ⟨f, fd, ["self", "cells", "bodies"], [], M, ?_, hm, b, .nil⟩
  refine F.ok sc (fun vs H Q E h => ?_) (fun cdv A outer s H vs Q E hr h => ?_)
  · obtain ⟨x, dx, v, bs, c, n, Hb, rfl, _⟩ := h
    rfl
  · obtain ⟨x, dx, v, bs, c, n, Hb, rfl, hx, hbx, eb, hd, hf, hcn2, c1, c3, hok, q⟩ := h
    refine ⟨_, (pss_cons (ps_if (pt_not (pt_val (pe_c Cis_between hr (by omega) (by rfl) (pa_cons (pv 1) (pa_cons pe_int (pa_cons (pe_glob (v := .int 3) (by rfl) c_MOST_CELLS ⟨_, rfl⟩) pa_nil))))))
      (pss_one ps_never)
      pss_nil)
      (pss_cons (ps_expr (pe_c Ccheck_bodies hr (by omega) (by rfl) (pa_cons (pv 1) (pa_cons (pv 2) pa_nil))))
      (pss_cons (ps_fld (pv 0) (pv 1) rfl)
      (pss_one (ps_fld (pv 0) (pe_c Ccopied hr (by omega) (by rfl) (pa_cons (pv 2) pa_nil)) rfl))))), ?_⟩
    refine q_when (b := false) (et_is (et_not (et_B (ev_spBtw (d := .int (c : Int)) (ev_var rfl) ev_c ev_c (.int _)))) (by rw [btw, decide_eq_true (by omega : (1 : Int) ≤ (c : Int)), decide_eq_true (by omega : (c : Int) ≤ 3)]; rfl)) (fun h => (nomatch h)) fun _ H1 e1 => ?_
    have edrop : ∀ {te : TE} {D : Ends} {tz : TS} {σ : L2.St} {H : Hp} {v : V}, Ev te σ H v → (∀ H1, Ex H H1 → tz D σ H1) → tSeq (tDrop te) tz D σ H := fun h k => h _ (Ex.refl _) _ fun H2 e2 => k H2 e2
    refine edrop (ev_spChk (ev_var rfl) (ev_var rfl) (dp_ex (eb.trans e1) _ _ hd) hf hok) fun H2 e2 => ?_
    have e02 := e1.trans e2
    have eb2 := eb.trans e02
    refine ⟨.int (c : Int), rfl, .ref x, rfl, x, C, dx, [], rfl, e02 _ _ hx, hc, n1, by decide, ?_⟩
    have eb3 := eb2.mut (o := .ins C dx (putF "_cells" (V.int (c : Int)) [])) hbx
    have hx3 : (upd H2 x (.ins C dx (putF "_cells" (V.int (c : Int)) []))) x = some (.ins C dx [("_cells", .int (c : Int))]) := upd_same
    generalize upd H2 x (.ins C dx (putF "_cells" (V.int (c : Int)) [])) = H3 at eb3 hx3 ⊢
    dsimp only
    refine ⟨v, rfl, v, .list bs, n, rfl, hcn2, dp_ex eb3 _ _ hd, hf, fun v' H4 e4 hq => ?_⟩
    refine ⟨.ref x, rfl, x, C, dx, [("_cells", .int (c : Int))], rfl, e4 _ _ hx3, hc, n2, by show 1 < 1000; decide, ?_⟩
    refine q _ ((eb3.trans e4).mut hbx) ⟨dx, v', upd_same, dq_to (fun a na => new_ex eb3 na) (fun a o na ho => ?_) _ _ hq⟩
    rw [upd_ne (fun e => by rw [e] at na; rw [show H3 x = none from na] at hx3; cases hx3)]
    exact ho
end
/-! ### what the law draws has no fault -/
theorem row_ok {c : Nat} {r : List Int} (h : okR c r) : rowD c (LI r) = true := by
  rw [rowD, List.length_map, decide_eq_true h.1, Bool.true_and, List.all_eq_true]
  intro x hx
  rw [List.mem_map] at hx
  obtain ⟨i, hi, rfl⟩ := hx
  have := h.2 i hi
  rw [btw, decide_eq_true this.1, decide_eq_true this.2]; rfl
theorem btw_nat {k m : Nat} (h : k < m) : btw 0 ((m : Int) - 1) (.int (k : Int)) = true := by
  rw [btw, decide_eq_true (by omega), decide_eq_true (by omega)]; rfl
theorem up_asc : ∀ (cs : List Nat), cs.Pairwise (· < ·) → up ((cs.map (Nat.cast : Nat → Int)).map PyData.int) = true
  | [], _ => rfl
  | [_], _ => rfl
  | a :: b :: r, h => by
    rw [List.pairwise_cons] at h
    have ab := h.1 b (List.mem_cons_self ..)
    have g := up_asc (b :: r) h.2
    show (decide ((a : Int) < (b : Int)) && up (PyData.int (b : Int) :: (r.map (Nat.cast : Nat → Int)).map PyData.int)) = true
    rw [decide_eq_true (by omega), Bool.true_and]
    exact g
theorem cells_ok {c : Nat} {cs : List Nat} (h : asc c cs) : cellsD c (LI (cs.map (Nat.cast : Nat → Int))) = true := by
  show (List.all _ _ && up _) = true
  rw [up_asc cs h.1, Bool.and_true, List.all_eq_true]
  intro x hx
  rw [List.map_map, List.mem_map] at hx
  obtain ⟨k, hk, rfl⟩ := hx
  exact btw_nat (h.2 k hk)
theorem stm_okD {c m lv : Nat} {s : Stm} (h : okS c m s lv) : stmD c m (toD s) = true := by
  cases s with
  | set k r =>
    rw [okS] at h; rw [toD]
    show (btw 0 ((c : Int) - 1) (.int (k : Int)) && rowD c (LI r)) = true
    rw [btw_nat h.1, row_ok h.2]; rfl
  | carry r =>
    rw [okS] at h; rw [toD]
    exact row_ok h
  | keep cs b =>
    rw [okS] at h; rw [toD]
    show (cellsD c (LI _) && true) = true
    rw [cells_ok h.2.1]; rfl
  | either a b => rw [toD]; rfl
  | again b => rw [toD]; rfl
  | call p r a b =>
    rw [okS] at h; rw [toD]
    show (btw 0 ((m : Int) - 1) (.int (p : Int)) && (rowD c (LI r) && true)) = true
    rw [btw_nat h.2.1, row_ok h.2.2.1]; rfl
  | fin w =>
    rw [okS] at h; rw [toD]
    show btw 0 1 (.int (w : Int)) = true
    exact btw_nat (m := 2) h
/-- the blocks -/
def blks : Stm → List (List Stm)
  | .keep _ b => [b]
  | .either a b => [a, b]
  | .again b => [b]
  | .call _ _ a b => [a, b]
  | _ => []
theorem blocks_toD (s : Stm) : blocksD (toD s) = (blks s).map fun b => .list (toDs b) := by
  cases s <;> rw [toD] <;> rfl
def itF (p : List Int) : Nat → List PyData → List (List Int × PyData)
  | _, [] => []
  | i, d :: r => (p ++ [(i : Int)], d) :: itF p (i + 1) r
theorem itF_is (p : List Int) : ∀ (ds : List PyData) (k : Nat), (List.range ds.length).map (fun (i : Nat) => (p ++ [((k + i : Nat) : Int)], ds.getD i .none)) = itF p k ds
  | [], k => rfl
  | d :: r, k => by
    rw [List.length_cons, List.range_succ_eq_map, List.map_cons, List.map_map, itF, ← itF_is p r (k + 1)]
    refine List.cons_eq_cons.mpr ⟨rfl, List.map_congr_left fun i _ => ?_⟩
    show (p ++ [((k + (i + 1) : Nat) : Int)], r.getD i .none) = (p ++ [((k + 1 + i : Nat) : Int)], r.getD i .none)
    rw [show k + (i + 1) = k + 1 + i by omega]
theorem itemsD_itF (p : List Int) (ds : List PyData) : itemsD p ds = itF p 0 ds := by
  rw [← itF_is p ds 0, itemsD]
  refine List.map_congr_left fun i _ => ?_
  rw [Nat.zero_add]
theorem lastI_at (p : List Int) (i : Int) : lastI (p ++ [i]) = i := by
  rw [lastI, List.length_append, List.length_singleton, Nat.add_sub_cancel, List.getD_eq_getElem?_getD, List.getElem?_append_right (Nat.le_refl _), Nat.sub_self]; rfl
theorem fits_ok {c m lv i : Nat} {s : Stm} {p : List Int} (h : okS c m s lv) (hp : p.length = 2 * lv) (hi : i < 8) : fitsD c m (p ++ [(i : Int)]) (toD s) = true := by
  rw [fitsD, lastI_at, stm_okD h, decide_eq_false (by omega), blocks_toD]
  show (true && (decide _ || _)) = true
  rw [Bool.true_and, List.length_append, hp, List.length_singleton]
  by_cases hl : lv < 3
  · rw [decide_eq_true (by omega)]; rfl
  · cases s with
    | keep _ _ => rw [okS] at h; exact absurd h.1 hl
    | either _ _ => rw [okS] at h; exact absurd h.1 hl
    | again _ => rw [okS] at h; exact absurd h.1 hl
    | call _ _ _ _ => rw [okS] at h; exact absurd h.1 hl
    | _ => exact Bool.or_true _
theorem ff_step {c m f many : Nat} {p : List Int} {d : PyData} {st : List (List Int × PyData)} (hf : fitsD c m p d = true) (hm : many < 12) : ffD c m (f + 1) ((p, d) :: st) many = ffD c m f (flatD p 0 (blocksD d) ++ st) (many + 1) := by
  rw [ffD, if_neg]
  rw [hf, decide_eq_false (by omega)]; simp
mutual
theorem ff_S {c m : Nat} : ∀ (s : Stm) {lv i f many : Nat} {p : List Int} {st : List (List Int × PyData)}, okS c m s lv → p.length = 2 * lv → i < 8 → many + cnt s ≤ 12 → ffD c m (f + cnt s) ((p ++ [(i : Int)], toD s) :: st) many = ffD c m f st (many + cnt s)
  | .set k r, lv, i, f, many, p, st, h, hp, hi, hm => by
    have hf := fits_ok h hp hi
    rw [cnt] at hm ⊢
    rw [ff_step hf (by omega), blocks_toD]; rfl
  | .carry r, lv, i, f, many, p, st, h, hp, hi, hm => by
    have hf := fits_ok h hp hi
    rw [cnt] at hm ⊢
    rw [ff_step hf (by omega), blocks_toD]; rfl
  | .fin r, lv, i, f, many, p, st, h, hp, hi, hm => by
    have hf := fits_ok h hp hi
    rw [cnt] at hm ⊢
    rw [ff_step hf (by omega), blocks_toD]; rfl
  | .keep cs b, lv, i, f, many, p, st, h, hp, hi, hm => by
    have hf := fits_ok h hp hi
    rw [okS] at h
    rw [cnt] at hm ⊢
    rw [show f + (1 + cntL b) = (f + cntL b) + 1 by omega, ff_step hf (by omega), blocks_toD]
    show ffD c m _ ((itemsD ((p ++ [(i : Int)]) ++ [((0 : Nat) : Int)]) (toDs b) ++ []) ++ st) _ = _
    rw [List.append_nil, itemsD_itF, ff_L b (lv := lv + 1) h.2.2.2 (by simp; omega) (by omega) (by omega)]
    exact congrArg _ (by omega)
  | .again b, lv, i, f, many, p, st, h, hp, hi, hm => by
    have hf := fits_ok h hp hi
    rw [okS] at h
    rw [cnt] at hm ⊢
    rw [show f + (1 + cntL b) = (f + cntL b) + 1 by omega, ff_step hf (by omega), blocks_toD]
    show ffD c m _ ((itemsD ((p ++ [(i : Int)]) ++ [((0 : Nat) : Int)]) (toDs b) ++ []) ++ st) _ = _
    rw [List.append_nil, itemsD_itF, ff_L b (lv := lv + 1) h.2.2 (by simp; omega) (by omega) (by omega)]
    exact congrArg _ (by omega)
  | .either a b, lv, i, f, many, p, st, h, hp, hi, hm => by
    have hf := fits_ok h hp hi
    rw [okS] at h
    rw [cnt] at hm ⊢
    rw [show f + (1 + cntL a + cntL b) = ((f + cntL b) + cntL a) + 1 by omega, ff_step hf (by omega), blocks_toD]
    show ffD c m _ ((itemsD ((p ++ [(i : Int)]) ++ [((0 : Nat) : Int)]) (toDs a) ++ (itemsD ((p ++ [(i : Int)]) ++ [((1 : Nat) : Int)]) (toDs b) ++ [])) ++ st) _ = _
    rw [List.append_nil, itemsD_itF, itemsD_itF, List.append_assoc, ff_L a (lv := lv + 1) h.2.2.1 (by simp; omega) (by omega) (by omega), ff_L b (lv := lv + 1) h.2.2.2.2 (by simp; omega) (by omega) (by omega)]
    exact congrArg _ (by omega)
  | .call q r a b, lv, i, f, many, p, st, h, hp, hi, hm => by
    have hf := fits_ok h hp hi
    rw [okS] at h
    rw [cnt] at hm ⊢
    rw [show f + (1 + cntL a + cntL b) = ((f + cntL b) + cntL a) + 1 by omega, ff_step hf (by omega), blocks_toD]
    show ffD c m _ ((itemsD ((p ++ [(i : Int)]) ++ [((0 : Nat) : Int)]) (toDs a) ++ (itemsD ((p ++ [(i : Int)]) ++ [((1 : Nat) : Int)]) (toDs b) ++ [])) ++ st) _ = _
    rw [List.append_nil, itemsD_itF, itemsD_itF, List.append_assoc, ff_L a (lv := lv + 1) h.2.2.2.2.1 (by simp; omega) (by omega) (by omega), ff_L b (lv := lv + 1) h.2.2.2.2.2.2 (by simp; omega) (by omega) (by omega)]
    exact congrArg _ (by omega)
theorem ff_L {c m : Nat} : ∀ (ss : List Stm) {lv i f many : Nat} {p : List Int} {st : List (List Int × PyData)}, okL c m ss lv → p.length = 2 * lv → i + ss.length ≤ 8 → many + cntL ss ≤ 12 → ffD c m (f + cntL ss) (itF p i (toDs ss) ++ st) many = ffD c m f st (many + cntL ss)
  | [], lv, i, f, many, p, st, h, hp, hi, hm => by rw [cntL, toDs, itF]; rfl
  | s :: r, lv, i, f, many, p, st, h, hp, hi, hm => by
    rw [okL] at h
    rw [cntL] at hm ⊢
    rw [List.length_cons] at hi
    rw [toDs, itF, List.cons_append, show f + (cnt s + cntL r) = (f + cntL r) + cnt s by omega, ff_S s h.1 hp (by omega) (by omega), ff_L r h.2 hp (by omega) (by omega)]
    exact congrArg _ (by omega)
end
theorem first_none {c m : Nat} {b : List Stm} (h : okB c m b) : firstD c m (toDs b) = none := by
  obtain ⟨h1, h2, h3⟩ := h
  rw [firstD, itemsD_itF, ← List.append_nil (itF _ _ _), show 13 = (13 - cntL b) + cntL b by omega, ff_L b h1 (by rfl) (by omega) (by omega), show 13 - cntL b = (12 - cntL b) + 1 by omega]
  rfl
theorem lv_len {n : Nat} {xs : List PyData} (h : xs.length ≤ 10000) (g : fitAll xs n = true) : fit (.list xs) (n + 1) = true := by
  rw [fit, decide_eq_true h, g]; rfl
theorem lv_tup {n : Nat} {xs : List PyData} (h : xs.length ≤ 10000) (g : fitAll xs n = true) : fit (.tuple xs) (n + 1) = true := by
  rw [fit, decide_eq_true h, g]; rfl
theorem asc_from : ∀ (cs : List Nat) (lo c : Nat), cs.Pairwise (· < ·) → (∀ k ∈ cs, lo ≤ k ∧ k < c) → cs.length ≤ c - lo
  | [], lo, c, _, _ => Nat.zero_le _
  | a :: r, lo, c, h, g => by
    rw [List.pairwise_cons] at h
    have ga := g a (List.mem_cons_self ..)
    have := asc_from r (a + 1) c h.2 fun k hk => ⟨h.1 k hk, (g k (List.mem_cons_of_mem _ hk)).2⟩
    rw [List.length_cons]
    omega
theorem asc_len {c : Nat} {cs : List Nat} (h : asc c cs) : cs.length ≤ c := asc_from cs 0 c h.1 fun k hk => ⟨Nat.zero_le _, h.2 k hk⟩
mutual
theorem fit_S {c m : Nat} (hc : c ≤ 3) : ∀ (s : Stm) {lv n : Nat}, okS c m s lv → 3 * (3 - lv) + 3 ≤ n → fit (toD s) n = true
  | .set k r, lv, n, h, hn => by
    rw [okS] at h; rw [toD]
    obtain ⟨j, rfl⟩ : ∃ j, n = j + 2 := ⟨n - 2, by omega⟩
    refine lv_tup (by show 3 ≤ 10000; decide) ?_
    simp only [fitAll, fit, Bool.true_and, Bool.and_true]
    exact fit_LI (n := j) (by rw [h.2.1]; omega)
  | .carry r, lv, n, h, hn => by
    rw [okS] at h; rw [toD]
    obtain ⟨j, rfl⟩ : ∃ j, n = j + 2 := ⟨n - 2, by omega⟩
    refine lv_tup (by show 2 ≤ 10000; decide) ?_
    simp only [fitAll, fit, Bool.true_and, Bool.and_true]
    exact fit_LI (n := j) (by rw [h.1]; omega)
  | .keep cs b, lv, n, h, hn => by
    rw [okS] at h; rw [toD]
    obtain ⟨j, rfl⟩ : ∃ j, n = j + 2 := ⟨n - 2, by omega⟩
    refine lv_tup (by show 3 ≤ 10000; decide) ?_
    have h1 := fit_LI (l := cs.map (Nat.cast : Nat → Int)) (n := j) (by rw [List.length_map]; have := asc_len h.2.1; omega)
    have h2 := lv_len (n := j) (by rw [toDs_len]; omega) (fit_L hc b h.2.2.2 (by omega))
    have h5 : fit (.str "keep") (j + 1) = true := rfl
    rw [fitAll, fitAll, fitAll, fitAll, h5, h1, h2]; rfl
  | .again b, lv, n, h, hn => by
    rw [okS] at h; rw [toD]
    obtain ⟨j, rfl⟩ : ∃ j, n = j + 2 := ⟨n - 2, by omega⟩
    refine lv_tup (by show 2 ≤ 10000; decide) ?_
    have h2 := lv_len (n := j) (by rw [toDs_len]; omega) (fit_L hc b h.2.2 (by omega))
    have h5 : fit (.str "again") (j + 1) = true := rfl
    rw [fitAll, fitAll, fitAll, h5, h2]; rfl
  | .either a b, lv, n, h, hn => by
    rw [okS] at h; rw [toD]
    obtain ⟨j, rfl⟩ : ∃ j, n = j + 2 := ⟨n - 2, by omega⟩
    refine lv_tup (by show 3 ≤ 10000; decide) ?_
    have h1 := lv_len (n := j) (by rw [toDs_len]; omega) (fit_L hc a h.2.2.1 (by omega))
    have h2 := lv_len (n := j) (by rw [toDs_len]; omega) (fit_L hc b h.2.2.2.2 (by omega))
    have h5 : fit (.str "either") (j + 1) = true := rfl
    rw [fitAll, fitAll, fitAll, fitAll, h5, h1, h2]; rfl
  | .call p r a b, lv, n, h, hn => by
    rw [okS] at h; rw [toD]
    obtain ⟨j, rfl⟩ : ∃ j, n = j + 3 := ⟨n - 3, by omega⟩
    refine lv_tup (by show 4 ≤ 10000; decide) ?_
    have h1 := fit_LI (l := r) (n := j + 1) (by rw [h.2.2.1.1]; omega)
    have h2 := lv_len (n := j) (by rw [toDs_len]; omega) (fit_L hc a h.2.2.2.2.1 (by omega))
    have h3 := lv_len (n := j) (by rw [toDs_len]; omega) (fit_L hc b h.2.2.2.2.2.2 (by omega))
    have h4 : fit (.list [.list (toDs a), .list (toDs b)]) (j + 2) = true := lv_len (by show 2 ≤ 10000; decide) (by rw [fitAll, fitAll, fitAll, h2, h3]; rfl)
    have h5 : fit (.str "call") (j + 2) = true := rfl
    have h6 : fit (.int (p : Int)) (j + 2) = true := rfl
    rw [fitAll, fitAll, fitAll, fitAll, fitAll, h5, h6, h1, h4]; rfl
  | .fin w, lv, n, h, hn => by
    rw [toD]
    obtain ⟨j, rfl⟩ : ∃ j, n = j + 2 := ⟨n - 2, by omega⟩
    refine lv_tup (by show 2 ≤ 10000; decide) ?_
    rfl
theorem fit_L {c m : Nat} (hc : c ≤ 3) : ∀ (ss : List Stm) {lv n : Nat}, okL c m ss lv → 3 * (3 - lv) + 3 ≤ n → fitAll (toDs ss) n = true
  | [], lv, n, h, hn => by rw [toDs, fitAll]
  | s :: r, lv, n, h, hn => by
    rw [okL] at h
    rw [toDs, fitAll, fit_S hc s h.1 hn, fit_L hc r h.2 hn]; rfl
end
/-- the known words -/
def okWords (ok : Str → Prop) : Prop := ok "set" ∧ ok "carry" ∧ ok "keep" ∧ ok "either" ∧ ok "again" ∧ ok "call" ∧ ok "end"
theorem allWs_ints {ok : Str → Prop} : ∀ l : List Int, allWs ok (l.map PyData.int)
  | [] => by rw [List.map_nil, allWs]; trivial
  | i :: r => by
    rw [List.map_cons, allWs, allW]
    · exact ⟨trivial, allWs_ints r⟩
    all_goals (intro _ h; cases h)
mutual
theorem allW_S {ok : Str → Prop} (o : okWords ok) : ∀ s : Stm, allW ok (toD s)
  | .set k r => by
    rw [toD]
    simp only [allW, allWs, wordOk, and_true, true_and]
    exact ⟨o.1, allWs_ints r⟩
  | .carry r => by
    rw [toD]
    simp only [allW, allWs, wordOk, and_true, true_and]
    exact ⟨o.2.1, allWs_ints r⟩
  | .keep cs b => by
    rw [toD]
    simp only [allW, allWs, wordOk, and_true, true_and]
    exact ⟨o.2.2.1, allWs_ints _, allW_L o b⟩
  | .either a b => by
    rw [toD]
    simp only [allW, allWs, wordOk, and_true, true_and]
    exact ⟨o.2.2.2.1, allW_L o a, allW_L o b⟩
  | .again b => by
    rw [toD]
    simp only [allW, allWs, wordOk, and_true, true_and]
    exact ⟨o.2.2.2.2.1, allW_L o b⟩
  | .call p r a b => by
    rw [toD]
    simp only [allW, allWs, wordOk, and_true, true_and]
    exact ⟨o.2.2.2.2.2.1, allWs_ints r, allW_L o a, allW_L o b⟩
  | .fin w => by
    rw [toD]
    simp only [allW, allWs, wordOk, and_true, true_and]
    exact o.2.2.2.2.2.2
theorem allW_L {ok : Str → Prop} (o : okWords ok) : ∀ ss : List Stm, allWs ok (toDs ss)
  | [] => by rw [toDs, allWs]; trivial
  | s :: r => by
    rw [toDs, allWs]
    exact ⟨allW_S o s, allW_L o r⟩
end
theorem toB_ok {ok : Str → Prop} {c m : Nat} (o : okWords ok) {bs : List (List Stm)} (hl : bs.length = m) (m1 : 1 ≤ m) (m3 : m ≤ 3) (h : ∀ b ∈ bs, okB c m b) : okBodies ok c (bs.map bD) := by
  refine ⟨by rw [List.length_map]; omega, by rw [List.length_map]; omega, fun b hb => ?_⟩
  rw [List.mem_map] at hb
  obtain ⟨b, hb, rfl⟩ := hb
  refine ⟨toDs b, rfl, fun e he => allWs_mem (allW_L o b) he, ?_⟩
  rw [List.length_map, hl]
  exact first_none (h b hb)
theorem toB_fit {c m : Nat} (hc : c ≤ 3) {bs : List (List Stm)} (hl : bs.length ≤ 10000) (h : ∀ b ∈ bs, okB c m b) : fit (toB bs) 14 = true := by
  refine lv_len (by rw [List.length_map]; exact hl) ?_
  induction bs with
  | nil => rfl
  | cons b r ih =>
    have hb := h b (List.mem_cons_self ..)
    have g := lv_len (n := 12) (by rw [toDs_len]; have := hb.2.1; omega) (fit_L hc b hb.1 (by decide))
    rw [List.map_cons, fitAll, show fit (bD b) 13 = true from g, ih (by rw [List.length_cons] at hl; omega) fun b hb => h b (List.mem_cons_of_mem _ hb)]; rfl
/-! ### what the law compares may be compared -/
mutual
theorem fit_depth : ∀ (d : PyData) (n : Nat), fit d n = true → PyData.depth d ≤ n
  | .none, _, _ => by simp [PyData.depth]
  | .bool _, _, _ => by simp [PyData.depth]
  | .int _, _, _ => by simp [PyData.depth]
  | .str _, _, _ => by simp [PyData.depth]
  | .list xs, 0, h => by simp [fit] at h
  | .list xs, n + 1, h => by
    rw [fit, Bool.and_eq_true] at h
    have := fit_depthAll xs n h.2
    rw [PyData.depth]; omega
  | .tuple xs, 0, h => by simp [fit] at h
  | .tuple xs, n + 1, h => by
    rw [fit, Bool.and_eq_true] at h
    have := fit_depthAll xs n h.2
    rw [PyData.depth]; omega
  | .dict _, _, h => by simp [fit] at h
theorem fit_depthAll : ∀ (ds : List PyData) (n : Nat), fitAll ds n = true → PyData.depthAll ds ≤ n
  | [], _, _ => by simp [PyData.depthAll]
  | d :: ds, n, h => by
    rw [fitAll, Bool.and_eq_true] at h
    have h1 := fit_depth d n h.1
    have h2 := fit_depthAll ds n h.2
    rw [PyData.depthAll]; omega
end
theorem shaped_of {d : PyData} {n : Nat} (h : fit d n = true) (hn : n ≤ 64) (hl : d.canLay0 = true) : SeqAt.shaped d = true := by
  rw [SeqAt.shaped, hl, Bool.true_and, decide_eq_true_eq]
  have := fit_depth d n h
  omega
theorem canLay_ints : ∀ l : List Int, PyData.canLayAll0 (l.map PyData.int) = true
  | [] => by simp [PyData.canLayAll0]
  | i :: r => by
    rw [List.map_cons, PyData.canLayAll0, canLay_ints r, Bool.and_true]
    simp [PyData.canLay0]
theorem depth_ints : ∀ l : List Int, PyData.depthAll (l.map PyData.int) = 0
  | [] => by simp [PyData.depthAll]
  | i :: r => by
    rw [List.map_cons, PyData.depthAll, depth_ints r]
    simp [PyData.depth]
theorem lay_LI (l : List Int) : (LI l).canLay0 = true := by
  rw [PyData.canLay0]; exact canLay_ints l
mutual
theorem lay_S : ∀ s : Stm, (toD s).canLay0 = true
  | .set k r => by
    rw [toD, PyData.canLay0]
    simp only [PyData.canLayAll0, lay_LI, Bool.and_true]
    simp only [PyData.canLay0, Bool.and_true]
    decide +kernel
  | .carry r => by
    rw [toD, PyData.canLay0]
    simp only [PyData.canLayAll0, lay_LI, Bool.and_true]
    decide +kernel
  | .keep cs b => by
    rw [toD, PyData.canLay0]
    have hb := lay_L b
    have h1 : (PyData.list (toDs b)).canLay0 = true := by rw [PyData.canLay0]; exact hb
    simp only [PyData.canLayAll0, lay_LI, h1, Bool.and_true]
    decide +kernel
  | .either a b => by
    rw [toD, PyData.canLay0]
    have h1 : (PyData.list (toDs a)).canLay0 = true := by rw [PyData.canLay0]; exact lay_L a
    have h2 : (PyData.list (toDs b)).canLay0 = true := by rw [PyData.canLay0]; exact lay_L b
    simp only [PyData.canLayAll0, h1, h2, Bool.and_true]
    decide +kernel
  | .again b => by
    rw [toD, PyData.canLay0]
    have h2 : (PyData.list (toDs b)).canLay0 = true := by rw [PyData.canLay0]; exact lay_L b
    simp only [PyData.canLayAll0, h2, Bool.and_true]
    decide +kernel
  | .call p r a b => by
    rw [toD, PyData.canLay0]
    have h1 : (PyData.list (toDs a)).canLay0 = true := by rw [PyData.canLay0]; exact lay_L a
    have h2 : (PyData.list (toDs b)).canLay0 = true := by rw [PyData.canLay0]; exact lay_L b
    have h3 : (PyData.list [.list (toDs a), .list (toDs b)]).canLay0 = true := by rw [PyData.canLay0]; simp only [PyData.canLayAll0, h1, h2]; rfl
    simp only [PyData.canLayAll0, lay_LI, h3, Bool.and_true]
    simp only [PyData.canLay0, Bool.and_true]
    decide +kernel
  | .fin w => by
    rw [toD, PyData.canLay0]
    simp only [PyData.canLayAll0, PyData.canLay0, Bool.and_true]
    decide +kernel
theorem lay_L : ∀ ss : List Stm, PyData.canLayAll0 (toDs ss) = true
  | [] => by rw [toDs]; simp [PyData.canLayAll0]
  | s :: r => by rw [toDs, PyData.canLayAll0, lay_S s, lay_L r]; rfl
end
/-! ### own rules: len(x), x[i, j] by a class's own __len__ and __getitem__ -/
section
variable {X : Cx} {CX : CXT} {C f : Addr} {fd : FuncData} {ps : List Str} {sp : Sp} {E : XK} {k : Nat}
theorem env_in1 {pins : List (Addr × Obj)} {σ : L2.St} {H : Hp} {s : Shared} (I : Inv X pins σ H s) : Env0 X.prog X.w X.K X.mg X.base X.A.in1 X.stack s H :=
  have e := I.env0
  ⟨e.frames, e.mod, e.bs, e.bsz, e.funs, e.frf, e.hok, e.bare⟩
/-- the call of an own def, one step in -/
theorem run_in1 {pins : List (Addr × Obj)} {σ : L2.St} {H : Hp} {s : Shared} {Q : VK} {us : List Value} {vs : List V} (F : FnOk X.prog X.w X.K X.mg X.base CX k f fd ps sp) (hb : Binds X.K fd ps []) (hr : Room (k + 1) X.A) (hx : Passes CX X E) (I : Inv X pins σ H s) (r : Vals vs us) (h : sp vs H Q E) :
    wpAny (model X.prog X.w) X.A.in1 (call (.ref f) us) (EP X pins σ Q) X.xe s := by
  have hl := F.len _ _ _ _ h
  refine wpAny_call (codeAny_mono (F.run X.A.in1 X.stack s H ⟨us, []⟩ us vs _ E hr.in1 (env_in1 I) (by
    have := hb s us I.kIn (by rw [List.append_nil, ← r.length]; exact hl)
    simpa using this) r h) fun r s' hq => ?_)
  cases r with
  | error e => exact hx pins σ H s e s' I hq
  | ok fl =>
    cases fl with
    | ret w => exact I.after hq
    | next => exact False.elim hq
    | brk => exact False.elim hq
    | cont => exact False.elim hq
theorem call_lenOwn (F : FnOk X.prog X.w X.K X.mg X.base CX k f fd ps sp) (hs : PySem.W.findIn X.K (.ref C) "__len__" = some (some (.ref f))) (hf : PySem.W.isFn X.K (.ref f) = true) (hb : Binds X.K fd ps []) (hr : Room (k + 1) X.A) (hx : Passes CX X E) :
    CallR X (.builtin "len") (fun xs H Q => ∃ a dx fs, xs = [.ref a] ∧ H a = some (.ins C dx fs) ∧ sp [.ref a] H (fun v H' => ∃ n : Nat, n < 4611686018427387904 ∧ v = .int (n : Int) ∧ Q (.int (n : Int)) H') E) := by
  intro pins s σ H xs us Q I r h
  obtain ⟨a, dx, fs, rfl, ha, hsp⟩ := h
  obtain ⟨u, rfl, ru⟩ := vals1 r
  obtain rfl : u = Value.ref a := ru
  obtain ⟨mA, J, _⟩ := ins_get I.hok ha
  obtain ⟨od, J, _⟩ := J.look
  obtain ⟨m, hF⟩ := I.fr
  refine PySem.W.len_K hF I.ok.mod.kin J hs hf (wpAny_mono (run_in1 F hb hr hx I (show Vals [V.ref a] [Value.ref a] from .cons rfl .nil) hsp) (fun v s' hq => ?_) fun _ _ x => x)
  obtain ⟨z, H', I', rz, n, hn, rfl, q⟩ := hq
  obtain ⟨t, rfl⟩ := rz
  exact ⟨⟨by omega, by omega⟩, .int n, H', I'.tok _, ⟨_, rfl⟩, q⟩
/-- a[b] by the class's own __getitem__ -/
theorem pe_ixOwn {a b : Expr} {ta tb : TE} {pos : Pos} (F : FnOk X.prog X.w X.K X.mg X.base CX k f fd ps sp) (hs : PySem.W.findIn X.K (.ref C) "__getitem__" = some (some (.ref f))) (hfn : PySem.W.fnIn X.K f = true) (hf : PySem.W.isFn X.K (.ref f) = true) (hb : Binds X.K fd ps []) (hr : Room (k + 1) X.A) (hx : Passes CX X E)
    (ha : PE X a ta) (hbb : PE X b tb) (hsl : ∀ x i, subscripted b true (.ref x) i = runValue (.builtin "lifetime.subscript" ⟨[.ref x, i], []⟩)) :
    PE X (.Subscript a b pos) (fun σ H Q => ta σ H fun x H1 => tb σ H1 fun y H2 => ∃ p dx fs, x = .ref p ∧ H2 p = some (.ins C dx fs) ∧ sp [.ref p, y] H2 Q E) := by
  refine ⟨fun pins s σ H Q I h => ?_⟩
  refine Subscript_ (binT ha hbb I h fun v u s2 x y H2 I2 rx ry q => ?_)
  obtain ⟨p, dx, fs, rfl, hp, hsp⟩ := q
  cases rx
  obtain ⟨mA, J, _⟩ := ins_get I2.hok hp
  obtain ⟨od, J, _⟩ := J.look
  obtain ⟨m, hF⟩ := I2.fr
  exact PySem.W.sub_K hF I2.ok.mod.kin J hs hfn hf (run_in1 F hb hr hx I2 (show Vals [V.ref p, y] [Value.ref p, u] from .cons rfl (.cons ry .nil)) hsp) (hsl _ _)
end
section
variable {X : Cx} {CX : CXT} {C f : Addr} {fd : FuncData} {ps : List Str} {sp : Sp} {E : XK} {k : Nat}
/-- x == y by the class's own __eq__, whatever it tells -/
theorem op_eqOwn (F : FnOk X.prog X.w X.K X.mg X.base CX k f fd ps sp) (hs : PySem.W.findIn X.K (.ref C) "__eq__" = some (some (.ref f))) (hf : PySem.W.isFn X.K (.ref f) = true) (hb : Binds X.K fd ps []) (hr : Room k X.A) (hx : Passes CX X E) :
    OpR X (compareOp .Eq) (fun x y H Q => ∃ a b dx dy fs gs, x = .ref a ∧ y = .ref b ∧ H a = some (.ins C dx fs) ∧ H b = some (.ins C dy gs) ∧ sp [.ref a, .ref b] H (fun v H' => ∃ t, v = .bl t ∧ Q (.bl t) H') E) := by
  intro pins s σ H x y v u Q I rx ry hq
  obtain ⟨a, b, dx, dy, fs, gs, rfl, rfl, ha, hb', hsp⟩ := hq
  cases rx
  cases ry
  obtain ⟨mA, J, _⟩ := ins_get I.hok ha
  obtain ⟨mB, J', _⟩ := ins_get I.hok hb'
  obtain ⟨od, J, _⟩ := J.look
  obtain ⟨od', J', _⟩ := J'.look
  obtain ⟨m, hF⟩ := I.fr
  show wpAny (model X.prog X.w) X.A (richCompare .Eq (.ref a) (.ref b)) (EP X pins σ Q) X.xe s
  have r2 : Vals [V.ref a, V.ref b] [Value.ref a, Value.ref b] := .cons rfl (.cons rfl .nil)
  refine PySem.W.cmp_K (op := .Eq) (tb := .ref C) hr.units0 hF I.ok.mod.kin J J'.type (by simp [PySem.W.notFirst]) hs hf (wpAny_mono (run_fn (dvs := []) F hr hb .nil hx I r2 hsp) (fun v s' hq => ?_) fun _ _ x => x)
  obtain ⟨z, H', I', rz, t, rfl, q⟩ := hq
  cases rz
  exact ⟨.bl t, H', I', rfl, q⟩
end
/-! ### the seven words -/
def ok7 (x : Str) : Prop := x = Str.ofString "set" ∨ x = Str.ofString "carry" ∨ x = Str.ofString "keep" ∨ x = Str.ofString "either" ∨ x = Str.ofString "again" ∨ x = Str.ofString "call" ∨ x = Str.ofString "end"
theorem ok7_words : okWords ok7 := ⟨.inl rfl, .inr (.inl rfl), .inr (.inr (.inl rfl)), .inr (.inr (.inr (.inl rfl))), .inr (.inr (.inr (.inr (.inl rfl)))), .inr (.inr (.inr (.inr (.inr (.inl rfl))))), .inr (.inr (.inr (.inr (.inr (.inr rfl)))))⟩
theorem sizes7 {K : PySem.W.Frag} {w : World} {a : Addr} {es : Array DictEntry} {n : Nat} {t0 t1 t2 t3 t4 t5 t6 : Tok} (d : KDict K w a es n) (h0 : PySem.W.nsIn K a "set" = some (some (.int 3 t0))) (h1 : PySem.W.nsIn K a "carry" = some (some (.int 2 t1))) (h2 : PySem.W.nsIn K a "keep" = some (some (.int 3 t2)))
    (h3 : PySem.W.nsIn K a "either" = some (some (.int 3 t3))) (h4 : PySem.W.nsIn K a "again" = some (some (.int 2 t4))) (h5 : PySem.W.nsIn K a "call" = some (some (.int 4 t5))) (h6 : PySem.W.nsIn K a "end" = some (some (.int 2 t6))) : Sizes K w a es n ok7 := by
  obtain ⟨z0, z1, z2, z3, z4, z5, z6⟩ := szw
  refine ⟨d, fun x m hx hm => ?_, fun x hx hm => ?_⟩
  · rcases hx with rfl | rfl | rfl | rfl | rfl | rfl | rfl
    · cases z0.symm.trans hm; exact ⟨_, h0⟩
    · cases z1.symm.trans hm; exact ⟨_, h1⟩
    · cases z2.symm.trans hm; exact ⟨_, h2⟩
    · cases z3.symm.trans hm; exact ⟨_, h3⟩
    · cases z4.symm.trans hm; exact ⟨_, h4⟩
    · cases z5.symm.trans hm; exact ⟨_, h5⟩
    · cases z6.symm.trans hm; exact ⟨_, h6⟩
  · rcases hx with rfl | rfl | rfl | rfl | rfl | rfl | rfl
    · cases z0.symm.trans hm
    · cases z1.symm.trans hm
    · cases z2.symm.trans hm
    · cases z3.symm.trans hm
    · cases z4.symm.trans hm
    · cases z5.symm.trans hm
    · cases z6.symm.trans hm
/-! ### the methods that only read -/
section
variable {P : Program} {w : World} {K : PySem.W.Frag} {mg : Str → Option Value} {base : Heap} {σ : L2.St} {H H' H0 : Hp}
/-- what a book's object holds -/
def BkO (C : Addr) (H : Hp) (x : Addr) (c : Nat) (v : V) : Prop := ∃ dx, H x = some (.ins C dx [("_cells", .int (c : Int)), ("_bodies", v)])
def spBkCells (C : Addr) : Sp := fun vs H Q _ => ∃ (x : Addr) (c : Nat) (v : V), vs = [.ref x] ∧ BkO C H x c v ∧ ∀ H', Ex H H' → Q (.int (c : Int)) H'
def spLen (K : PySem.W.Frag) (C : Addr) : Sp := fun vs H Q _ => ∃ (x : Addr) (c : Nat) (b : Addr) (xs : List V), vs = [.ref x] ∧ BkO C H x c (.ref b) ∧ SqL K H b xs ∧ ∀ H', Ex H H' → Q (.int (xs.length : Int)) H'
def spBds (K : PySem.W.Frag) (C : Addr) (cn : Nat) : Sp := fun vs H Q _ => ∃ (x : Addr) (c : Nat) (v : V) (d : PyData) (n : Nat), vs = [.ref x] ∧ BkO C H x c v ∧ Dp K H v d ∧ fit d n = true ∧ cn = n + 1 ∧ ∀ v' H', Ex H H' → Dq (New H) H' v' d → Q v' H'
theorem ev_fld {C : Addr} {te : TE} {f : Str} {x dx : Addr} {fs : List (Str × V)} {v : V} (hc : Cls K C) (nf : NoAttr K C f) (h : Ev te σ H (.ref x)) (hx : H x = some (.ins C dx fs)) (hv : fs.lookup f = some v) : Ev (tFld K te f) σ H v := fun H1 e Q q =>
  h H1 e _ fun H2 e2 => ⟨x, C, dx, fs, v, rfl, e2 _ _ (e _ _ hx), hc, nf, hv, q H2 e2⟩
theorem ok_cells_told {C f : Addr} {fd : FuncData} {k : Nat} (F : Fun K "cells" "Book.cells" sBook_cells f fd) (hc : Cls K C) (n1 : NoAttr K C "_cells") : FnOk P w K mg base CX0 (k + 1) f fd ["self"] (spBkCells C) := by
  have sc := scBook_cells
  refine F.ok sc (fun vs H Q E h => ?_) (fun cdv A outer s H vs Q E hr h => ?_)
  · obtain ⟨x, c, v, rfl, _⟩ := h
    rfl
  · obtain ⟨x, c, v, rfl, ⟨dx, hx⟩, q⟩ := h
    refine ⟨_, (pss_one (ps_ret (pe_fld (pv 0) rfl))), ?_⟩
    exact s_ret (ev_fld hc n1 (ev_var rfl) hx rfl) fun H1 e1 => q H1 e1
theorem ok_len {C f : Addr} {fd : FuncData} {k : Nat} (F : Fun K "__len__" "Book.__len__" sBook___len__ f fd) (hc : Cls K C) (n2 : NoAttr K C "_bodies") (z_len : mg "len" = none) : FnOk P w K mg base CX0 (k + 1) f fd ["self"] (spLen K C) := by
  have sc := scBook___len__
  refine F.ok sc (fun vs H Q E h => ?_) (fun cdv A outer s H vs Q E hr h => ?_)
  · obtain ⟨x, c, b, xs, rfl, _⟩ := h
    rfl
  · obtain ⟨x, c, b, xs, rfl, ⟨dx, hx⟩, hb, q⟩ := h
    refine ⟨_, (pss_one (ps_ret (pe_callB call_len_seq (by rfl) z_len (by decide +kernel) (pa_cons (pe_fld (pv 0) rfl) pa_nil)))), ?_⟩
    exact s_ret (ev_lenS (ev_fld hc n2 (ev_var rfl) hx rfl) (.inl hb)) fun H1 e1 => q H1 e1
theorem ok_bodies_told {C f : Addr} {fd : FuncData} {k cn : Nat} (F : Fun K "bodies" "Book.bodies" sBook_bodies f fd) (hc : Cls K C) (n2 : NoAttr K C "_bodies") (Ccopied : Cal P w K mg base cn "copied" (spCopy K cn) []) (hcn : cn ≤ k) : FnOk P w K mg base CX0 (k + 1) f fd ["self"] (spBds K C cn) := by
  have sc := scBook_bodies
  refine F.ok sc (fun vs H Q E h => ?_) (fun cdv A outer s H vs Q E hr h => ?_)
  · obtain ⟨x, c, v, d, n, rfl, _⟩ := h
    rfl
  · obtain ⟨x, c, v, d, n, rfl, ⟨dx, hx⟩, hd, hf, hn, q⟩ := h
    refine ⟨_, (pss_one (ps_ret (pe_c Ccopied hr (by omega) (by rfl) (pa_cons (pe_fld (pv 0) rfl) pa_nil)))), ?_⟩
    refine s_retR (cp_call hn (ev_fld hc n2 (ev_var rfl) hx rfl) hd hf H (Ex.refl H) _ fun v' H1 e1 hq => q v' H1 e1 hq)
end
/-! ### a heap without one object -/
def Ct (p : Addr) (H : Hp) : Hp := fun a => if a = p then none else H a
section
variable {K : PySem.W.Frag} {H H' Hb : Hp} {p a : Addr} {σ : L2.St} {ta tb te tl : TE}
theorem ct_self : Ct p H p = none := by rw [Ct, if_pos rfl]
theorem ct_o {o : HO} (h : H a = some o) (n : a ≠ p) : Ct p H a = some o := by rw [Ct, if_neg n]; exact h
theorem ct_ne {o : HO} (h : Ct p H a = some o) : a ≠ p ∧ H a = some o := by
  by_cases e : a = p
  · rw [Ct, if_pos e] at h; cases h
  · rw [Ct, if_neg e] at h; exact ⟨e, h⟩
theorem ct_ex : Ex (Ct p H) H := fun a o h => (ct_ne h).2
theorem ct_of (e : Oth p H H') : Ex (Ct p H) H' := fun a o h => e a o (ct_ne h).1 (ct_ne h).2
theorem ct_oth (e : Oth p H H') : Ex (Ct p H) (Ct p H') := fun a o h => ct_o (e a o (ct_ne h).1 (ct_ne h).2) (ct_ne h).1
theorem ct_mono (e : Ex H H') : Ex (Ct p H) (Ct p H') := ct_oth (.of e)
theorem ct_base (h : Ex Hb H) (hp : Hb p = none) : Ex Hb (Ct p H) := fun a o ha => ct_o (h a o ha) fun z => by rw [z, hp] at ha; cases ha
theorem ex_oth (h : Ex Hb H) (hp : Hb p = none) (o : Oth p H H') : Ex Hb H' := fun a u ha => o a u (fun z => by rw [z, hp] at ha; cases ha) (h a u ha)
theorem ct_rd {u : HO} {l : List V} (hp : H p = some (.lst l)) (h : Rd H a u) (hu : ∀ l, u ≠ .lst l) : Rd (Ct p H) a u := by
  rcases h with h | ⟨o, h⟩
  · exact .inl (ct_o h fun z => by rw [z, hp] at h; exact hu _ (Option.some.inj h).symm)
  · exact .inr ⟨o, ct_o h fun z => by rw [z, hp] at h; cases h⟩
theorem ct_t {xs l : List V} (hp : H p = some (.lst l)) (h : SqT K H a xs) : SqT K (Ct p H) a xs := by
  rcases h with h | h
  · exact .inl (ct_rd hp h fun l e => by cases e)
  · exact .inr h
/-! ### arguments of one kind -/
def EvW (Φ : V → Hp → Prop) (ta : TA) (σ : L2.St) (H : Hp) (n : Nat) : Prop := ∀ H1, Ex H H1 → ∀ Q : List V → Hp → Prop, (∀ vs H2, Ex H1 H2 → vs.length = n → (∀ v ∈ vs, Φ v H2) → Q vs H2) → ta σ H1 Q
theorem ew_nil {Φ : V → Hp → Prop} : EvW Φ tNil σ H 0 := fun H1 _ _ q => q [] H1 (Ex.refl H1) rfl fun _ h => by cases h
theorem ew_cons {Φ : V → Hp → Prop} {tr : TA} {n : Nat} (mono : ∀ v H H', Ex H H' → Φ v H → Φ v H') (h : EvP te σ H Φ) (hr : EvW Φ tr σ H n) : EvW Φ (tCons te tr) σ H (n + 1) := fun H1 e _ q =>
  h H1 e _ fun v H2 e2 f => hr H2 (e.trans e2) _ fun vs H3 e3 hl hv => q (v :: vs) H3 (e2.trans e3) (by rw [List.length_cons, hl]) fun w hw => by
    rcases List.mem_cons.mp hw with rfl | hw
    · exact mono _ _ _ e3 f
    · exact hv w hw
def TupIs (K : PySem.W.Frag) (xs : List V) (v : V) (H : Hp) : Prop := ∃ a, v = .ref a ∧ SqT K H a xs
theorem ti_var {i : Nat} {xs : List V} (h : σ[i]? = some (some (.ref a))) (hs : SqT K H a xs) : EvP (tVar i) σ H (TupIs K xs) := ep_ev (ev_var h) fun H2 e => ⟨a, rfl, ex_t e hs⟩
theorem ti_tup {tr : TA} {vs : List V} (h : EvA tr σ H vs) (hl : vs.length ≤ 100000) : EvP (tTup tr) σ H (TupIs K vs) := fun H1 e _ q =>
  h H1 e _ fun H2 e2 => ⟨sz_of hl, fun T hT => q _ _ (e2.trans (Ex.new hT)) ⟨T, rfl, st_of upd_same⟩⟩
theorem ti_cat {tr : TA} {xs ys : List V} (h1 : EvP ta σ H (TupIs K xs)) (h : EvA tr σ H ys) (hy : ys ≠ []) (l1 : xs.length ≤ 1000) (l2 : ys.length ≤ 1000) : EvP (tOp (rCatA K) ta (tTup tr)) σ H (TupIs K (xs ++ ys)) := fun H1 e Q q =>
  h1 H1 e _ fun v H2 e2 ⟨a, hv, ha⟩ => h H2 (e.trans e2) _ fun H3 e3 => ⟨sz_of (by omega), fun T hT => by
    have eT := Ex.new (o := .tup ys) hT
    refine ⟨a, T, xs, ys, hv, rfl, ex_t (e3.trans eT) ha, st_of upd_same, sz_of (by omega), fun h0 => ?_, fun _ h0 => absurd h0 hy, fun _ _ T2 n2 => ?_⟩
    · refine q _ _ ((e2.trans e3).trans eT) ⟨T, rfl, ?_⟩
      rw [h0, List.nil_append]
      exact st_of upd_same
    · exact q _ _ (((e2.trans e3).trans eT).trans (Ex.new n2)) ⟨T2, rfl, st_of upd_same⟩⟩
theorem cut_init (xs : List V) (h : xs ≠ []) : cutV xs none (some ((xs.length : Int) - 1)) = xs.take (xs.length - 1) := by
  have h0 : 0 < xs.length := List.length_pos_iff.mpr h
  unfold cutV
  rw [HT.sIx_none, show ((xs.length : Int) - 1) = ((xs.length - 1 : Nat) : Int) by omega, show HT.sIx xs.length xs.length (some ((xs.length - 1 : Nat) : Int)) = min (xs.length - 1) xs.length from HT.sIx_nat xs.length xs.length _]
  show (xs.drop 0).take (min (xs.length - 1) xs.length - 0) = _
  rw [List.drop_zero, Nat.sub_zero, Nat.min_eq_left (by omega)]
theorem ti_init {i : Nat} {xs : List V} (h : σ[i]? = some (some (.ref a))) (hs : SqT K H a xs) (hx : xs ≠ []) : EvP (tSl (rSlT K) (tVar i) tNoPart (tPart (tOp (rI0 fun i j => .int (i - j)) (tCB (rLenS K) (tCons (tVar i) tNil)) (tC (.int 1))))) σ H (TupIs K (xs.take (xs.length - 1))) := fun H1 e Q q => by
  have h0 : 0 < xs.length := List.length_pos_iff.mpr hx
  refine ⟨.ref a, h, ?_⟩
  refine ev_op (ev_lenS (ev_var h) (.inr (ex_t e hs))) ev_c rv_I0 H1 (Ex.refl H1) _ fun H2 e2 => ?_
  refine ⟨(xs.length : Int) - 1, rfl, a, xs, rfl, ex_t (e.trans e2) hs, fun ⟨_, z⟩ => ?_, fun T nT => ?_⟩
  · rw [show ((xs.length : Int) - 1) = ((xs.length - 1 : Nat) : Int) by omega, show HT.sIx xs.length xs.length (some ((xs.length - 1 : Nat) : Int)) = min (xs.length - 1) xs.length from HT.sIx_nat xs.length xs.length _] at z
    omega
  · refine q _ _ (e2.trans (Ex.new nT)) ⟨T, rfl, ?_⟩
    rw [← cut_init xs hx]
    exact st_of upd_same
end
/-- the word of a statement -/
def hdW : Stm → Str
  | .set _ _ => "set"
  | .carry _ => "carry"
  | .keep _ _ => "keep"
  | .either _ _ => "either"
  | .again _ => "again"
  | .call _ _ _ _ => "call"
  | .fin _ => "end"
section
variable {P : Program} {w : World} {K : PySem.W.Frag} {mg : Str → Option Value} {base : Heap} {σ : L2.St} {H H' H0 : Hp}
/-! ### a statement's items -/
def ItS (K : PySem.W.Frag) (H : Hp) : Stm → List V → Prop
  | .set k r, xs => ∃ a, xs = [.int (k : Int), .ref a] ∧ SqL K H a (r.map V.int)
  | .carry r, xs => ∃ a, xs = [.ref a] ∧ SqL K H a (r.map V.int)
  | .keep cs b, xs => ∃ a v, xs = [.ref a, v] ∧ SqL K H a ((cs.map (Nat.cast : Nat → Int)).map V.int) ∧ Dp K H v (.list (toDs b))
  | .either a b, xs => ∃ v u, xs = [v, u] ∧ Dp K H v (.list (toDs a)) ∧ Dp K H u (.list (toDs b))
  | .again b, xs => ∃ v, xs = [v] ∧ Dp K H v (.list (toDs b))
  | .call p r a b, xs => ∃ ra B v u, xs = [.int (p : Int), .ref ra, .ref B] ∧ SqL K H ra (r.map V.int) ∧ SqL K H B [v, u] ∧ Dp K H v (.list (toDs a)) ∧ Dp K H u (.list (toDs b))
  | .fin w, xs => xs = [.int (w : Int)]
theorem dp_ints : ∀ {xs : List V} {l : List Int}, DpAll K H xs (l.map PyData.int) → xs = l.map V.int
  | [], [], _ => rfl
  | x :: xs, i :: l, h => by
    cases h with
    | cons a b =>
      cases a
      rw [dp_ints b]; rfl
theorem dp_li {v : V} {l : List Int} (h : Dp K H v (LI l)) : ∃ a, v = .ref a ∧ SqL K H a (l.map V.int) := by
  obtain ⟨a, xs, rfl, s, hx⟩ := dp_lst h
  rw [dp_ints hx] at s
  exact ⟨a, rfl, s⟩
theorem dp_intv {v : V} {i : Int} (h : Dp K H v (.int i)) : v = .int i := by cases h; rfl
theorem stm_items {v : V} {s : Stm} (h : Dp K H v (toD s)) : ∃ t xs, v = .ref t ∧ SqT K H t (.str (hdW s) :: xs) ∧ ItS K H s xs := by
  cases s with
  | set k r =>
    rw [toD] at h
    obtain ⟨t, va, vb, rfl, s, pa, pb⟩ := items3 h
    obtain ⟨a, rfl, sa⟩ := dp_li pb
    rw [dp_intv pa] at s
    exact ⟨t, _, rfl, s, a, rfl, sa⟩
  | carry r =>
    rw [toD] at h
    obtain ⟨t, va, rfl, s, pa⟩ := items2 h
    obtain ⟨a, rfl, sa⟩ := dp_li pa
    exact ⟨t, _, rfl, s, a, rfl, sa⟩
  | keep cs b =>
    rw [toD] at h
    obtain ⟨t, va, vb, rfl, s, pa, pb⟩ := items3 h
    obtain ⟨a, rfl, sa⟩ := dp_li pa
    exact ⟨t, _, rfl, s, a, vb, rfl, sa, pb⟩
  | either a b =>
    rw [toD] at h
    obtain ⟨t, va, vb, rfl, s, pa, pb⟩ := items3 h
    exact ⟨t, _, rfl, s, va, vb, rfl, pa, pb⟩
  | again b =>
    rw [toD] at h
    obtain ⟨t, va, rfl, s, pa⟩ := items2 h
    exact ⟨t, _, rfl, s, va, rfl, pa⟩
  | call p r a b =>
    rw [toD] at h
    obtain ⟨t, va, vb, vc, rfl, s, pa, pb, pc⟩ := items4 h
    obtain ⟨ra, rfl, sa⟩ := dp_li pb
    rw [dp_intv pa] at s
    obtain ⟨B, xs, rfl, sB, hx⟩ := dp_lst pc
    obtain ⟨v0, r0, rfl, p0, q0⟩ := dpa1 hx
    obtain ⟨v1, r1, rfl, p1, q1⟩ := dpa1 q0
    rw [dpa0 q1] at sB
    exact ⟨t, _, rfl, s, ra, B, v0, v1, rfl, sa, sB, p0, p1⟩
  | fin w =>
    rw [toD] at h
    obtain ⟨t, va, rfl, s, pa⟩ := items2 h
    rw [dp_intv pa] at s
    exact ⟨t, _, rfl, s, rfl⟩
/-! ### more of what evaluates to what -/
/-- [e for x in l], the items told one by one -/
theorem el_map {a : Addr} {xs ys : List V} {tl te : TE} {j : Nat} {vs : List Nat} (h : Ev tl σ H (.ref a)) (hx : SqL K H a xs) (hl : xs.length = ys.length) (hz : xs.length ≤ 40000) (hw : ∀ x, wipe ((wipe σ vs).set j (some x)) vs = wipe σ vs)
    (he : ∀ (i : Nat) (x y : V) H1, Ex H H1 → xs[i]? = some x → ys[i]? = some y → Ev te ((wipe σ vs).set j (some x)) H1 y) : EvL (tLc (iList K tl) (gName j) tYes te vs) σ H ys :=
  el_is (el_lcL (fun _ => true) (fun i => ys.getD i .non) h hx hz hw (fun _ _ _ _ _ => et_yes) (fun i x H1 e hi _ => by
    have hi2 : i < ys.length := by have := (List.getElem?_eq_some_iff.mp hi).1; omega
    exact he i x _ H1 e hi (by rw [List.getD_eq_getElem?_getD, List.getElem?_eq_getElem hi2]; rfl))) (by
    rw [given_all, hl]
    refine List.ext_getElem? fun i => ?_
    by_cases hi : i < ys.length
    · rw [List.getElem?_map, List.getElem?_range hi, Option.map_some, List.getD_eq_getElem?_getD, List.getElem?_eq_getElem hi]; rfl
    · rw [List.getElem?_eq_none (by rw [List.length_map, List.length_range]; omega), List.getElem?_eq_none (by omega)])
/-- *l, .. -/
theorem ea_star {p : Addr} {xs vs : List V} {te : TE} {tr : TA} (h : Ev te σ H (.ref p)) (hp : SqL K H p xs) (hr : EvA tr σ H vs) : EvA (StX.tStar K te tr) σ H (xs ++ vs) := fun H1 e Q q =>
  h H1 e _ fun H2 e2 => ⟨p, xs, rfl, .inr (ex_l (e.trans e2) hp), hr H2 (e.trans e2) _ fun H3 e3 => q H3 (e2.trans e3)⟩
theorem ea_starN {xs vs : List V} {te : TE} {tr : TA} (h : EvL te σ H xs) (hr : EvA tr σ H vs) : EvA (StX.tStar K te tr) σ H (xs ++ vs) := fun H1 e Q q =>
  h H1 e _ fun p H2 _ e2 hp => ⟨p, xs, rfl, .inr (sq_of hp), hr H2 (e.trans e2) _ fun H3 e3 => q H3 (e2.trans e3)⟩
end
/-! ### objects that change: L, each at a place of its own; Hd, what stands for good -/
abbrev OL := List (Addr × HO)
structure Own (Hd : Hp) (L : OL) (H : Hp) : Prop where
  nd : (L.map Prod.fst).Nodup
  at_ : ∀ p ∈ L, H p.1 = some p.2
  ex : Ex Hd H
  no : ∀ p ∈ L, Hd p.1 = none
section
variable {Hd H H' : Hp} {L La Lb : OL} {a : Addr} {o o' : HO}
theorem Own.get (h : Own Hd L H) (m : (a, o) ∈ L) : H a = some o := h.at_ _ m
theorem Own.g2 {p : Addr × HO} (h : Own Hd (p :: (a, o) :: La) H) : H a = some o := h.at_ (a, o) (List.mem_cons_of_mem _ (List.mem_cons_self ..))
theorem Own.g3 {p p' : Addr × HO} (h : Own Hd (p :: p' :: (a, o) :: La) H) : H a = some o := h.at_ (a, o) (List.mem_cons_of_mem _ (List.mem_cons_of_mem _ (List.mem_cons_self ..)))
theorem Own.mono (h : Own Hd L H) (e : Ex H H') : Own Hd L H' := ⟨h.nd, fun p hp => e _ _ (h.at_ p hp), h.ex.trans e, h.no⟩
theorem own_ne (h : ((La ++ (a, o) :: Lb).map Prod.fst).Nodup) : ∀ p, p ∈ La ∨ p ∈ Lb → p.1 ≠ a := by
  rw [List.map_append, List.map_cons, List.nodup_append] at h
  intro p hp e
  rcases hp with hp | hp
  · exact h.2.2 p.1 (List.mem_map_of_mem (f := Prod.fst) hp) a (List.mem_cons_self ..) e
  · have := (List.nodup_cons.mp h.2.1).1
    exact this (by rw [← e]; show p.1 ∈ Lb.map Prod.fst; exact List.mem_map_of_mem hp)
theorem Own.upd (h : Own Hd (La ++ (a, o) :: Lb) H) (o' : HO) : Own Hd (La ++ (a, o') :: Lb) (upd H a o') := by
  have hne := own_ne h.nd
  have hmem : ∀ p ∈ La ++ (a, o') :: Lb, p = (a, o') ∨ ((p ∈ La ∨ p ∈ Lb) ∧ p ∈ La ++ (a, o) :: Lb) := fun p hp => by
    rcases List.mem_append.mp hp with hp | hp
    · exact .inr ⟨.inl hp, List.mem_append.mpr (.inl hp)⟩
    · rcases List.mem_cons.mp hp with hp | hp
      · exact .inl hp
      · exact .inr ⟨.inr hp, List.mem_append.mpr (.inr (List.mem_cons_of_mem _ hp))⟩
  have na : Hd a = none := h.no (a, o) (by simp)
  refine ⟨by have := h.nd; rw [List.map_append, List.map_cons] at this ⊢; exact this, fun p hp => ?_, h.ex.mut na, fun p hp => ?_⟩
  · rcases hmem p hp with rfl | ⟨hp, hm⟩
    · exact upd_same
    · rw [upd_ne (hne p hp)]; exact h.at_ p hm
  · rcases hmem p hp with rfl | ⟨_, hm⟩
    · exact na
    · exact h.no p hm
theorem Own.new (h : Own Hd (La ++ Lb) H) (e : Ex H H') (n : H a = none) (ha : H' a = some o) : Own Hd (La ++ (a, o) :: Lb) H' := by
  have hL : ∀ p ∈ La ++ Lb, p.1 ≠ a := fun p hp z => by have := h.at_ p hp; rw [z, n] at this; cases this
  have nd := h.nd
  have hmem : ∀ p ∈ La ++ (a, o) :: Lb, p = (a, o) ∨ p ∈ La ++ Lb := fun p hp => by
    rcases List.mem_append.mp hp with hp | hp
    · exact .inr (List.mem_append.mpr (.inl hp))
    · rcases List.mem_cons.mp hp with hp | hp
      · exact .inl hp
      · exact .inr (List.mem_append.mpr (.inr hp))
  refine ⟨?_, fun p hp => ?_, h.ex.trans e, fun p hp => ?_⟩
  · rw [List.map_append, List.nodup_append] at nd
    rw [List.map_append, List.map_cons, List.nodup_append]
    refine ⟨nd.1, List.nodup_cons.mpr ⟨fun z => ?_, nd.2.1⟩, fun x hx y hy => ?_⟩
    · obtain ⟨p, hp, hz⟩ := List.mem_map.mp z
      exact hL p (List.mem_append.mpr (.inr hp)) hz
    · rcases List.mem_cons.mp hy with rfl | hy
      · intro z
        obtain ⟨p, hp, hz⟩ := List.mem_map.mp hx
        exact hL p (List.mem_append.mpr (.inl hp)) (hz.trans z)
      · exact nd.2.2 x hx y hy
  · rcases hmem p hp with rfl | hp
    · exact ha
    · exact e _ _ (h.at_ p hp)
  · rcases hmem p hp with rfl | hp
    · exact fresh_back h.ex n
    · exact h.no p hp
theorem Own.del (h : Own Hd (La ++ (a, o) :: Lb) H) : Own Hd (La ++ Lb) H := by
  have hmem : ∀ p ∈ La ++ Lb, p ∈ La ++ (a, o) :: Lb := fun p hp => by
    rcases List.mem_append.mp hp with hp | hp
    · exact List.mem_append.mpr (.inl hp)
    · exact List.mem_append.mpr (.inr (List.mem_cons_of_mem _ hp))
  refine ⟨?_, fun p hp => h.at_ p (hmem p hp), h.ex, fun p hp => h.no p (hmem p hp)⟩
  have nd := h.nd
  rw [List.map_append, List.map_cons, List.nodup_append, List.nodup_cons] at nd
  rw [List.map_append, List.nodup_append]
  exact ⟨nd.1, nd.2.1.2, fun x hx y hy => nd.2.2 x hx y (List.mem_cons_of_mem _ hy)⟩
/-- one more thing stands for good -/
theorem Own.grow (h : Own Hd L H) (e : Ex H H') (n : H a = none) (ha : H' a = some o) : Own (L2.upd Hd a o) L H' ∧ Ex Hd (L2.upd Hd a o) := by
  have nHd : Hd a = none := fresh_back h.ex n
  refine ⟨⟨h.nd, fun p hp => e _ _ (h.at_ p hp), fun b u hb => ?_, fun p hp => ?_⟩, Ex.new nHd⟩
  · by_cases z : b = a
    · subst z
      rw [upd_same] at hb
      cases hb
      exact ha
    · rw [upd_ne z] at hb
      exact e _ _ (h.ex _ _ hb)
  · have : p.1 ≠ a := fun z => by have := h.at_ p hp; rw [z, n] at this; cases this
    rw [upd_ne this]
    exact h.no p hp
/-- an object changes no more -/
theorem Own.rest (h : Own Hd (La ++ (a, o) :: Lb) H) : Own (L2.upd Hd a o) (La ++ Lb) H ∧ Ex Hd (L2.upd Hd a o) := by
  have hne := own_ne h.nd
  have hd := h.del
  have na : Hd a = none := h.no (a, o) (by simp)
  have ha : H a = some o := h.at_ (a, o) (by simp)
  refine ⟨⟨hd.nd, hd.at_, fun b u hb => ?_, fun p hp => ?_⟩, Ex.new na⟩
  · by_cases z : b = a
    · subst z
      rw [upd_same] at hb
      cases hb
      exact ha
    · rw [upd_ne z] at hb
      exact h.ex _ _ hb
  · rw [upd_ne (hne p (List.mem_append.mp hp))]
    exact hd.no p hp
end
/-! ### executing lists of bits: the mathematics -/
inductive Stp where
  | put (k : Nat) (r : List Int)
  | save (ps : List Nat)
  | back
def stpD : Stp → PyData
  | .put k r => .tuple [.str "put", .int (k : Int), LI r]
  | .save ps => .tuple [.str "save", LI (ps.map (Nat.cast : Nat → Int))]
  | .back => .tuple [.str "back"]
inductive Wd where
  | body
  | keep
  | block
  | again
  deriving DecidableEq
def wdS : Wd → Str
  | .body => "body"
  | .keep => "keep"
  | .block => "block"
  | .again => "again"
structure Fr where
  w : Wd
  blk : List Stm
  pos : Nat
  proc : Nat
  nxt : Option (List Stm × List Stm)
structure Cf where
  taken : Nat
  frs : List Fr
  begun : List (List Nat)
  steps : List Stp
  len : Nat
  way : Nat
section
variable (c : Nat) (bits : List Nat) (bo : List (List Stm))
def cmdC (s : Cf) (k : Nat) (r : List Int) : Cf := { s with steps := s.steps ++ [.put k r], len := s.len + 1 }
def opnC (s : Cf) (f : Fr) : Cf := { s with frs := f :: s.frs }
def bgnC (s : Cf) (p : Nat) (nx : Option (List Stm × List Stm)) : Except Int Cf :=
  if (s.begun.getD p []).getLast? = some s.taken then .error (-2) else .ok (opnC { s with begun := s.begun.set p (s.begun.getD p [] ++ [s.taken]) } ⟨.body, bo.getD p [], 0, p, nx⟩)
def bitC (s : Cf) : Except Int (Nat × Cf) := if s.taken = bits.length then .error (bits.length : Int) else .ok (bits.getD s.taken 0, { s with taken := s.taken + 1 })
/-- the steps behind the closing of a block -/
def clsS (f : Fr) (st : List Stp) : List Stp := if f.w = .keep then st ++ [.back] else st
def clsC (s : Cf) : Cf := match s.frs with
  | [] => s
  | f :: r => { s with frs := r, steps := clsS f s.steps }
/-- the block behind a call -/
def nxB (way : Nat) (f : Fr) : List Stm := match f.nxt with
  | some (a, b) => if way = 0 then a else b
  | none => []
def endL (way : Nat) (s : Cf) : List Fr → List Stp → Cf
  | [], _ => s
  | f :: r, st => if f.w = .body then
      (if r = [] then { s with frs := [], steps := st, begun := s.begun.set f.proc (s.begun.getD f.proc []).dropLast, way := way }
       else { s with frs := ⟨.block, nxB way f, 0, 0, none⟩ :: r, steps := st ++ [.back], begun := s.begun.set f.proc (s.begun.getD f.proc []).dropLast })
    else endL way s r (clsS f st)
def endC (way : Nat) (s : Cf) : Cf := endL way s s.frs s.steps
def excC (s : Cf) : Stm → Except Int Cf
  | .set k r => .ok (cmdC s (k + 1) r)
  | .carry r => .ok (cmdC s (c + 1) r)
  | .keep cs b => .ok (opnC { s with steps := s.steps ++ [.save (cs.map (· + 1) ++ [c + 1])] } ⟨.keep, b, 0, 0, none⟩)
  | .either a b => match bitC bits s with
    | .error e => .error e
    | .ok (v, s') => .ok (opnC s' ⟨.block, if v = 0 then a else b, 0, 0, none⟩)
  | .again b => .ok (opnC s ⟨.again, b, b.length, 0, none⟩)
  | .call p r a b => bgnC bo { s with steps := s.steps ++ [.save [c + 1], .put (c + 1) r] } p (some (a, b))
  | .fin w => .ok (endC w s)
/-- a loop's block is left -/
def lveA (s : Cf) (f : Fr) (r : List Fr) : Except Int Cf := match bitC bits s with
  | .error e => .error e
  | .ok (v, s') => if v = 1 then .ok { s' with frs := { f with pos := 0 } :: r } else .ok (clsC s')
def lveC (s : Cf) (f : Fr) (r : List Fr) : Except Int Cf :=
  if f.w = .body then .ok (endC 0 s) else if f.w = .again then lveA bits s f r else .ok (clsC s)
def advC (s : Cf) : Except Int Cf := match s.frs with
  | [] => .ok s
  | f :: r => if f.pos = f.blk.length then lveC bits s f r else match f.blk[f.pos]? with
    | some st => excC c bits bo { s with frs := { f with pos := f.pos + 1 } :: r } st
    | none => .ok s
/-- until no block is left, n times at most -/
def goC : Nat → Cf → Option (Except Int Cf)
  | 0, s => if s.frs = [] then some (.ok s) else none
  | n + 1, s => if s.frs = [] then some (.ok s) else match advC c bits bo s with
    | .error e => some (.error e)
    | .ok s' => goC n s'
end
abbrev sFrame___init__ : Stmt := inClass (topS 19) 0
theorem scFrame___init__ : FnScope ["self", "word", "block", "told"] ["self", "word", "block", "told"] (defScope sFrame___init__) := ⟨rfl, rfl, rfl, by decide +kernel, rfl, by decide +kernel, by decide +kernel⟩
abbrev sExecution___init__ : Stmt := inClass (topS 20) 0
theorem scExecution___init__ : FnScope ["self", "book", "procedure", "bits", "_"] ["self", "book", "procedure", "bits"] (defScope sExecution___init__) := ⟨rfl, rfl, rfl, by decide +kernel, rfl, by decide +kernel, by decide +kernel⟩
abbrev sExecution__bit : Stmt := inClass (topS 20) 1
theorem scExecution__bit : FnScope ["self"] ["self"] (defScope sExecution__bit) := ⟨rfl, rfl, rfl, by decide +kernel, rfl, by decide +kernel, by decide +kernel⟩
abbrev sExecution__open : Stmt := inClass (topS 20) 2
theorem scExecution__open : FnScope ["self", "word", "block", "told"] ["self", "word", "block", "told"] (defScope sExecution__open) := ⟨rfl, rfl, rfl, by decide +kernel, rfl, by decide +kernel, by decide +kernel⟩
abbrev sExecution__begin : Stmt := inClass (topS 20) 3
theorem scExecution__begin : FnScope ["self", "procedure", "blocks", "begun"] ["self", "procedure", "blocks"] (defScope sExecution__begin) := ⟨rfl, rfl, rfl, by decide +kernel, rfl, by decide +kernel, by decide +kernel⟩
abbrev sExecution__advance : Stmt := inClass (topS 20) 4
theorem scExecution__advance : FnScope ["self", "frame"] ["self"] (defScope sExecution__advance) := ⟨rfl, rfl, rfl, by decide +kernel, rfl, by decide +kernel, by decide +kernel⟩
abbrev sExecution__execute : Stmt := inClass (topS 20) 5
theorem scExecution__execute : FnScope ["self", "statement", "word", "cell"] ["self", "statement"] (defScope sExecution__execute) := ⟨rfl, rfl, rfl, by decide +kernel, rfl, by decide +kernel, by decide +kernel⟩
abbrev sExecution__command : Stmt := inClass (topS 20) 6
theorem scExecution__command : FnScope ["self", "place", "row"] ["self", "place", "row"] (defScope sExecution__command) := ⟨rfl, rfl, rfl, by decide +kernel, rfl, by decide +kernel, by decide +kernel⟩
abbrev sExecution__leave : Stmt := inClass (topS 20) 7
theorem scExecution__leave : FnScope ["self", "frame"] ["self", "frame"] (defScope sExecution__leave) := ⟨rfl, rfl, rfl, by decide +kernel, rfl, by decide +kernel, by decide +kernel⟩
abbrev sExecution__close : Stmt := inClass (topS 20) 8
theorem scExecution__close : FnScope ["self", "frame"] ["self"] (defScope sExecution__close) := ⟨rfl, rfl, rfl, by decide +kernel, rfl, by decide +kernel, by decide +kernel⟩
abbrev sExecution__end : Stmt := inClass (topS 20) 9
theorem scExecution__end : FnScope ["self", "way", "frame", "procedure", "blocks"] ["self", "way"] (defScope sExecution__end) := ⟨rfl, rfl, rfl, by decide +kernel, rfl, by decide +kernel, by decide +kernel⟩
abbrev scheck_bits : Stmt := topS 21
theorem sccheck_bits : FnScope ["bits", "index", "bit"] ["bits"] (defScope scheck_bits) := ⟨rfl, rfl, rfl, by decide +kernel, rfl, by decide +kernel, by decide +kernel⟩
abbrev sexecuted : Stmt := topS 22
theorem scexecuted : FnScope ["book", "procedure", "bits"] ["book", "procedure", "bits"] (defScope sexecuted) := ⟨rfl, rfl, rfl, by decide +kernel, rfl, by decide +kernel, by decide +kernel⟩
abbrev sbehind : Stmt := topS 23
theorem scbehind : FnScope ["steps", "vector", "numbers", "saved", "step", "noted", "place", "number", "factor"] ["steps", "vector"] (defScope sbehind) := ⟨rfl, rfl, rfl, by decide +kernel, rfl, by decide +kernel, by decide +kernel⟩
section
variable {P : Program} {w : World} {K : PySem.W.Frag} {mg : Str → Option Value} {base : Heap} {σ : L2.St} {Hd Hd' H H' H0 : Hp}
/-- a frame as it stands -/
structure FV where
  a : Addr
  dx : Addr
  bv : V
  tv : V
  f : Fr
def frF (f : Fr) (bv tv : V) (k : Int) : List (Str × V) := [("word", .str (wdS f.w)), ("block", bv), ("told", tv), ("at", .int k)]
def FV.o (CF : Addr) (v : FV) : Addr × HO := (v.a, .ins CF v.dx (frF v.f v.bv v.tv (v.f.pos : Int)))
/-- a natural number as a value -/
def nV (n : Nat) : V := .int (n : Int)
structure BV where
  a : Addr
  l : List Nat
def BV.o (v : BV) : Addr × HO := (v.a, .lst (v.l.map nV))
/-- an execution's own fields -/
def exF (bv : V) (c : Nat) (bt : Addr) (taken : Nat) (F B S : Addr) (len way : Nat) : List (Str × V) :=
  [("_bodies", bv), ("_last", .int ((c + 1 : Nat) : Int)), ("_bits", .ref bt), ("_taken", .int (taken : Int)), ("_frames", .ref F), ("_begun", .ref B), ("steps", .ref S), ("length", .int (len : Int)), ("way", .int (way : Int))]
theorem putF_taken {bv : V} {c : Nat} {bt F B S : Addr} {taken len way : Nat} (n : Nat) : putF "_taken" (V.int (n : Int)) (exF bv c bt taken F B S len way) = exF bv c bt n F B S len way := rfl
theorem putF_len {bv : V} {c : Nat} {bt F B S : Addr} {taken len way : Nat} (n : Nat) : putF "length" (V.int (n : Int)) (exF bv c bt taken F B S len way) = exF bv c bt taken F B S n way := rfl
theorem putF_way {bv : V} {c : Nat} {bt F B S : Addr} {taken len way : Nat} (n : Nat) : putF "way" (V.int (n : Int)) (exF bv c bt taken F B S len way) = exF bv c bt taken F B S len n := rfl
theorem putF_at {f : Fr} {bv tv : V} {k : Int} (n : Int) : putF "at" (V.int n) (frF f bv tv k) = frF f bv tv n := rfl
/-- what a frame holds stands for good -/
def FrOk (K : PySem.W.Frag) (Hd : Hp) (v : FV) : Prop := Dp K Hd v.bv (.list (toDs v.f.blk)) ∧
  (v.f.w = .body → ∃ t u, v.tv = .ref t ∧ SqT K Hd t [.int (v.f.proc : Int), u] ∧ ∀ a b, v.f.nxt = some (a, b) → Dp K Hd u (.list [.list (toDs a), .list (toDs b)]))
theorem FrOk.ex {v : FV} (h : FrOk K Hd v) (e : Ex Hd Hd') : FrOk K Hd' v := ⟨dp_ex e _ _ h.1, fun z => by
  obtain ⟨t, u, a, b, c⟩ := h.2 z
  exact ⟨t, u, a, ex_t e b, fun x y q => dp_ex e _ _ (c x y q)⟩⟩
def exL (CE CF x dx F B S : Addr) (fl : List (Str × V)) (fs : List FV) (bs : List BV) (svs : List V) : OL :=
  (x, .ins CE dx fl) :: (F, .lst (fs.reverse.map fun v => .ref v.a)) :: (B, .lst (bs.map fun v => .ref v.a)) :: (S, .lst svs) :: (fs.map (FV.o CF) ++ bs.map BV.o)
/-- an execution at x in the state s -/
structure RepD (K : PySem.W.Frag) (CE CF : Addr) (Hd H : Hp) (x : Addr) (c : Nat) (bits : List Nat) (bo : List (List Stm)) (s : Cf) (dx F B S bt : Addr) (bv : V) (fs : List FV) (bs : List BV) (svs : List V) : Prop where
  own : Own Hd (exL CE CF x dx F B S (exF bv c bt s.taken F B S s.len s.way) fs bs svs) H
  hbo : Dp K Hd bv (toB bo)
  hbt : SqL K Hd bt (bits.map nV)
  hfs : fs.map (·.f) = s.frs
  hfr : ∀ v ∈ fs, FrOk K Hd v
  hbs : bs.map (·.l) = s.begun
  hst : DpAll K Hd svs (s.steps.map stpD)
def Rep (K : PySem.W.Frag) (CE CF : Addr) (Hd H : Hp) (x : Addr) (c : Nat) (bits : List Nat) (bo : List (List Stm)) (s : Cf) : Prop := ∃ dx F B S bt bv fs bs svs, RepD K CE CF Hd H x c bits bo s dx F B S bt bv fs bs svs
variable {CE CF x dx F B S bt : Addr} {c : Nat} {bits : List Nat} {bo : List (List Stm)} {s : Cf} {bv : V} {fs : List FV} {bs : List BV} {svs : List V}
theorem RepD.mono (r : RepD K CE CF Hd H x c bits bo s dx F B S bt bv fs bs svs) (e : Ex H H') : RepD K CE CF Hd H' x c bits bo s dx F B S bt bv fs bs svs := ⟨r.own.mono e, r.hbo, r.hbt, r.hfs, r.hfr, r.hbs, r.hst⟩
theorem RepD.up (r : RepD K CE CF Hd H x c bits bo s dx F B S bt bv fs bs svs) (e : Ex Hd Hd') (o : Own Hd' (exL CE CF x dx F B S (exF bv c bt s.taken F B S s.len s.way) fs bs svs) H') : RepD K CE CF Hd' H' x c bits bo s dx F B S bt bv fs bs svs :=
  ⟨o, dp_ex e _ _ r.hbo, ex_l e r.hbt, r.hfs, fun v hv => (r.hfr v hv).ex e, r.hbs, dpa_ex e _ _ r.hst⟩
theorem RepD.hx (r : RepD K CE CF Hd H x c bits bo s dx F B S bt bv fs bs svs) : H x = some (.ins CE dx (exF bv c bt s.taken F B S s.len s.way)) := r.own.get (by simp [exL])
theorem RepD.hF (r : RepD K CE CF Hd H x c bits bo s dx F B S bt bv fs bs svs) : H F = some (.lst (fs.reverse.map fun v => .ref v.a)) := r.own.get (by simp [exL])
theorem RepD.hB (r : RepD K CE CF Hd H x c bits bo s dx F B S bt bv fs bs svs) : H B = some (.lst (bs.map fun v => .ref v.a)) := r.own.get (by simp [exL])
theorem RepD.hS (r : RepD K CE CF Hd H x c bits bo s dx F B S bt bv fs bs svs) : H S = some (.lst svs) := r.own.get (by simp [exL])
theorem RepD.hf (r : RepD K CE CF Hd H x c bits bo s dx F B S bt bv fs bs svs) {v : FV} (hv : v ∈ fs) : H v.a = some (.ins CF v.dx (frF v.f v.bv v.tv (v.f.pos : Int))) := r.own.get (by
  simp only [exL, List.mem_cons, List.mem_append]
  exact .inr (.inr (.inr (.inr (.inl (List.mem_map_of_mem (f := FV.o CF) hv))))))
theorem RepD.hb (r : RepD K CE CF Hd H x c bits bo s dx F B S bt bv fs bs svs) {v : BV} (hv : v ∈ bs) : H v.a = some (.lst (v.l.map nV)) := r.own.get (by
  simp only [exL, List.mem_cons, List.mem_append]
  exact .inr (.inr (.inr (.inr (.inr (List.mem_map_of_mem (f := BV.o) hv))))))
/-- the fields of self are set anew -/
theorem RepD.setX (r : RepD K CE CF Hd H x c bits bo s dx F B S bt bv fs bs svs) (tk ln wy : Nat) : RepD K CE CF Hd (upd H x (.ins CE dx (exF bv c bt tk F B S ln wy))) x c bits bo { s with taken := tk, len := ln, way := wy } dx F B S bt bv fs bs svs :=
  ⟨r.own.upd (La := []) _, r.hbo, r.hbt, r.hfs, r.hfr, r.hbs, r.hst⟩
theorem dpa_cat : ∀ {xs ys : List V} {ds es : List PyData}, DpAll K H xs ds → DpAll K H ys es → DpAll K H (xs ++ ys) (ds ++ es)
  | _, _, _, _, .nil, h => h
  | _, _, _, _, .cons a b, h => .cons a (dpa_cat b h)
/-- a step more -/
theorem RepD.step (r : RepD K CE CF Hd H x c bits bo s dx F B S bt bv fs bs svs) {v : V} {t : Stp} (hv : Dp K Hd v (stpD t)) : RepD K CE CF Hd (upd H S (.lst (svs ++ [v]))) x c bits bo { s with steps := s.steps ++ [t] } dx F B S bt bv fs bs (svs ++ [v]) :=
  ⟨r.own.upd (La := [_, _, _]) _, r.hbo, r.hbt, r.hfs, r.hfr, r.hbs, by rw [List.map_append]; exact dpa_cat r.hst (.cons hv .nil)⟩
/-- a frame more: its object at y, then the list of frames -/
theorem RepD.push (r : RepD K CE CF Hd H x c bits bo s dx F B S bt bv fs bs svs) {v : FV} (e : Ex H H') (ny : H v.a = none) (hy : H' v.a = some (.ins CF v.dx (frF v.f v.bv v.tv (v.f.pos : Int)))) (hv : FrOk K Hd v) :
    RepD K CE CF Hd (upd H' F (.lst (fs.reverse.map (fun v => V.ref v.a) ++ [.ref v.a]))) x c bits bo (opnC s v.f) dx F B S bt bv (v :: fs) bs svs := by
  have o1 : Own Hd (exL CE CF x dx F B S (exF bv c bt s.taken F B S s.len s.way) fs bs svs) H := r.own
  have o2 := Own.new (La := [(x, .ins CE dx (exF bv c bt s.taken F B S s.len s.way)), (F, .lst (fs.reverse.map fun v => .ref v.a)), (B, .lst (bs.map fun v => .ref v.a)), (S, .lst svs)]) (Lb := fs.map (FV.o CF) ++ bs.map BV.o) o1 e ny hy
  have o3 := Own.upd (La := [(x, .ins CE dx (exF bv c bt s.taken F B S s.len s.way))]) o2 (.lst (fs.reverse.map (fun v => V.ref v.a) ++ [.ref v.a]))
  refine ⟨?_, r.hbo, r.hbt, by rw [List.map_cons, r.hfs]; rfl, fun u hu => ?_, r.hbs, r.hst⟩
  · have : (v :: fs).reverse.map (fun v => V.ref v.a) = fs.reverse.map (fun v => V.ref v.a) ++ [.ref v.a] := by simp
    show Own Hd (exL CE CF x dx F B S (exF bv c bt s.taken F B S s.len s.way) (v :: fs) bs svs) _
    unfold exL
    rw [this]
    exact o3
  · rcases List.mem_cons.mp hu with rfl | hu
    · exact hv
    · exact r.hfr u hu
/-- the innermost frame goes -/
theorem RepD.pop {v : FV} {f : Fr} {rs : List Fr} (r : RepD K CE CF Hd H x c bits bo s dx F B S bt bv (v :: fs) bs svs) (hs : s.frs = f :: rs) : v.f = f ∧ RepD K CE CF Hd (upd H F (.lst (fs.reverse.map fun v => V.ref v.a))) x c bits bo { s with frs := rs } dx F B S bt bv fs bs svs := by
  have hm := r.hfs
  rw [hs, List.map_cons] at hm
  obtain ⟨h1, h2⟩ := List.cons_eq_cons.mp hm
  refine ⟨h1, ?_, r.hbo, r.hbt, h2, fun u hu => r.hfr u (List.mem_cons_of_mem _ hu), r.hbs, r.hst⟩
  have o1 : Own Hd (exL CE CF x dx F B S (exF bv c bt s.taken F B S s.len s.way) (v :: fs) bs svs) H := r.own
  have o2 := Own.upd (La := [(x, .ins CE dx (exF bv c bt s.taken F B S s.len s.way))]) o1 (.lst (fs.reverse.map fun v => V.ref v.a))
  exact Own.del (La := [(x, .ins CE dx (exF bv c bt s.taken F B S s.len s.way)), (F, .lst (fs.reverse.map fun v => .ref v.a)), (B, .lst (bs.map fun v => .ref v.a)), (S, .lst svs)]) (Lb := fs.map (FV.o CF) ++ bs.map BV.o) o2
/-- the innermost frame's place changes -/
theorem RepD.setAt {v : FV} {f : Fr} {rs : List Fr} (r : RepD K CE CF Hd H x c bits bo s dx F B S bt bv (v :: fs) bs svs) (hs : s.frs = f :: rs) (n : Nat) :
    RepD K CE CF Hd (upd H v.a (.ins CF v.dx (frF v.f v.bv v.tv (n : Int)))) x c bits bo { s with frs := { f with pos := n } :: rs } dx F B S bt bv ({ v with f := { v.f with pos := n } } :: fs) bs svs := by
  have hm := r.hfs
  rw [hs, List.map_cons] at hm
  obtain ⟨h1, h2⟩ := List.cons_eq_cons.mp hm
  refine ⟨?_, r.hbo, r.hbt, by rw [List.map_cons, h2, ← h1], fun u hu => ?_, r.hbs, r.hst⟩
  · have o1 : Own Hd (exL CE CF x dx F B S (exF bv c bt s.taken F B S s.len s.way) (v :: fs) bs svs) H := r.own
    have := Own.upd (La := [(x, .ins CE dx (exF bv c bt s.taken F B S s.len s.way)), (F, .lst ((v :: fs).reverse.map fun v => .ref v.a)), (B, .lst (bs.map fun v => .ref v.a)), (S, .lst svs)]) o1 (.ins CF v.dx (frF v.f v.bv v.tv (n : Int)))
    show Own Hd (exL CE CF x dx F B S (exF bv c bt s.taken F B S s.len s.way) ({ v with f := { v.f with pos := n } } :: fs) bs svs) _
    unfold exL
    rw [List.reverse_cons, List.map_append] at this ⊢
    exact this
  · rcases List.mem_cons.mp hu with rfl | hu
    · exact r.hfr v (List.mem_cons_self ..)
    · exact r.hfr u (List.mem_cons_of_mem _ hu)
/-- the list of the p-th procedure's beginnings changes -/
theorem RepD.setB {p : Nat} {v : BV} (r : RepD K CE CF Hd H x c bits bo s dx F B S bt bv fs bs svs) (hp : bs[p]? = some v) (l : List Nat) :
    RepD K CE CF Hd (upd H v.a (.lst (l.map nV))) x c bits bo { s with begun := s.begun.set p l } dx F B S bt bv fs (bs.set p { v with l := l }) svs := by
  have hlt : p < bs.length := (List.getElem?_eq_some_iff.mp hp).1
  have hbs : bs = bs.take p ++ v :: bs.drop (p + 1) := by
    conv => lhs; rw [← List.take_append_drop p bs, List.drop_eq_getElem_cons hlt]
    rw [(List.getElem?_eq_some_iff.mp hp).2]
  have hset : bs.set p { v with l := l } = bs.take p ++ { v with l := l } :: bs.drop (p + 1) := List.set_eq_take_append_cons_drop.trans (if_pos hlt)
  refine ⟨?_, r.hbo, r.hbt, r.hfs, r.hfr, ?_, r.hst⟩
  · have o1 : Own Hd (exL CE CF x dx F B S (exF bv c bt s.taken F B S s.len s.way) fs bs svs) H := r.own
    have hB : (bs.set p { v with l := l }).map (fun v => V.ref v.a) = bs.map fun v => V.ref v.a := by
      rw [hset]
      conv => rhs; rw [hbs]
      simp
    show Own Hd (exL CE CF x dx F B S (exF bv c bt s.taken F B S s.len s.way) fs (bs.set p { v with l := l }) svs) _
    unfold exL at o1 ⊢
    rw [hB, hset, List.map_append, List.map_cons, ← List.append_assoc]
    have e2 : fs.map (FV.o CF) ++ bs.map BV.o = (fs.map (FV.o CF) ++ (bs.take p).map BV.o) ++ BV.o v :: (bs.drop (p + 1)).map BV.o := by
      conv => lhs; rw [hbs]
      simp
    rw [e2] at o1
    exact Own.upd (La := (x, .ins CE dx (exF bv c bt s.taken F B S s.len s.way)) :: (F, .lst (fs.reverse.map fun v => .ref v.a)) :: (B, .lst (bs.map fun v => .ref v.a)) :: (S, .lst svs) :: (fs.map (FV.o CF) ++ (bs.take p).map BV.o)) o1 (.lst (l.map nV))
  · rw [List.map_set, r.hbs]
end
/-! ### NoRun's field -/
abbrev sNoRun___init__ : Stmt := inClass (topS 17) 0
theorem scNoRun___init__ : FnScope ["self", "index"] ["self", "index"] (defScope sNoRun___init__) := ⟨rfl, rfl, rfl, by decide +kernel, rfl, by decide +kernel, by decide +kernel⟩
section
variable {P : Program} {w : World} {K : PySem.W.Frag} {mg : Str → Option Value} {base : Heap} {σ : L2.St} {H H' : Hp}
def spNR (K : PySem.W.Frag) (C : Addr) : Sp := fun vs H Q _ => ∃ (a : Addr) (i : Int), vs = [.ref a, .int i] ∧ H a = some (exo a C none) ∧
  ∀ (dx : Addr) (H' : Hp), Oth a H H' → H' a = some (exo a C (some dx)) → H' dx = some (exd dx [("index", .int i)]) → H dx = none → Q .non H'
theorem ok_norun {C f : Addr} {fd : FuncData} {k : Nat} (F : Fun K "__init__" "NoRun.__init__" sNoRun___init__ f fd) (T : OexC K C) (n1 : PySem.W.findIn K (.ref C) "index" = some none) (Ccopied : Cal P w K mg base 15 "copied" (spCopy K 15) []) (hk : 15 ≤ k) : FnOk P w K mg base CX0 (k + 1) f fd ["self", "index"] (spNR K C) := by
  have sc := scNoRun___init__
  refine F.ok sc (fun vs H Q E h => ?_) (fun cdv A outer s H vs Q E hr h => ?_)
  · obtain ⟨a, i, rfl, _⟩ := h
    rfl
  · obtain ⟨a, i, rfl, ha, q⟩ := h
    refine ⟨_, (pss_one (ps_ost (pv 0) (pe_c Ccopied hr (by omega) (by rfl) (pa_cons (pv 1) pa_nil)))), ?_⟩
    refine cp_call (n := 15) rfl (ev_var rfl) (.int i) (by simp [fit]) H (Ex.refl _) _ fun y H1 e1 dq1 => ?_
    cases dq1
    refine ⟨.ref a, rfl, a, C, rfl, T, n1, .inl ⟨e1 _ _ ha, fun dx hdx hne => q dx _ (fun b u nb hb => ?_) upd_same (by rw [upd_ne hne, upd_same]) (fresh_back e1 hdx)⟩⟩
    rw [upd_ne nb, upd_ne fun z => by rw [← z, e1 _ _ hb] at hdx; cases hdx]
    exact e1 _ _ hb
theorem mk_nr {C : Addr} {i : Int} {te : TE} {Q : XK} (h1 : Ev te σ H (.int i)) (k : ∀ d H', Ex H H' → H d = none → H' d = some (.xd [("index", .int i)]) → Q (.ref C) (some d) H') : tMkO C (spNR K C) [] (tCons te tNil) σ H Q := by
  unfold tMkO
  refine h1 H (Ex.refl _) _ fun H2 e2 => ?_
  refine ⟨by show 1 ≤ 1000; decide, fun a ha => ⟨a, i, rfl, upd_same, fun dx H' o ha' hd' hdx => ?_⟩⟩
  have nda : dx ≠ a := fun z => by rw [z, upd_same] at hdx; cases hdx
  have hdx0 : H2 dx = none := by rw [upd_ne nda] at hdx; exact hdx
  refine ⟨rfl, dx, _, ha', hd', hdx0, k dx _ (fun b u hb => ?_) (fresh_back e2 hdx0) upd_same⟩
  have hb2 := e2 _ _ hb
  have nb : b ≠ a := fun z => by rw [z, ha] at hb2; cases hb2
  have nd : b ≠ dx := fun z => by rw [z, hdx0] at hb2; cases hb2
  rw [upd_ne nd, del_ne nb]
  exact o _ _ nb (by rw [upd_ne nb]; exact hb2)
end
open C8 (Mak pe_mk)
section
variable {P : Program} {w : World} {K : PySem.W.Frag} {mg : Str → Option Value} {base : Heap} {σ : L2.St} {Hd Hd' H H' H0 : Hp}
variable {CE CF CN x dx F B S bt : Addr} {c : Nat} {bits : List Nat} {bo : List (List Stm)} {s : Cf} {bv : V} {fs : List FV} {bs : List BV} {svs : List V}
/-- the facts of the classes -/
structure ExC (K : PySem.W.Frag) (CE CF : Addr) : Prop where
  cE : Cls K CE
  cF : Cls K CF
  n_bodies : NoAttr K CE "_bodies"
  n_last : NoAttr K CE "_last"
  n_bits : NoAttr K CE "_bits"
  n_taken : NoAttr K CE "_taken"
  n_frames : NoAttr K CE "_frames"
  n_begun : NoAttr K CE "_begun"
  n_steps : NoAttr K CE "steps"
  n_length : NoAttr K CE "length"
  n_way : NoAttr K CE "way"
  n_word : NoAttr K CF "word"
  n_block : NoAttr K CF "block"
  n_told : NoAttr K CF "told"
  n_at : NoAttr K CF "at"
/-- the error's wish: the index -/
def ErrAt (CN : Addr) (Hb : Hp) (i : Int) (E : XK) : Prop := ∀ d H', Ex Hb H' → Hb d = none → H' d = some (.xd [("index", .int i)]) → E (.ref CN) (some d) H'
theorem ErrAt.ex {i : Int} {E : XK} (h : ErrAt CN H i E) (e : Ex H H') : ErrAt CN H' i E := fun d H2 e2 n hd => h d H2 (e.trans e2) (fresh_back e n) hd
/-! ### Frame(..) -/
def spFrame (CF : Addr) : Sp := fun vs H Q _ => ∃ (y dy : Addr) (w : Str) (bv tv : V), vs = [.ref y, .str w, bv, tv] ∧ H y = some (.ins CF dy []) ∧ ∀ H', Oth y H H' → H' y = some (.ins CF dy [("word", .str w), ("block", bv), ("told", tv), ("at", .int 0)]) → Q .non H'
theorem ok_frame {f : Addr} {fd : FuncData} {k : Nat} (F : Fun K "__init__" "Frame.__init__" sFrame___init__ f fd) (X : ExC K CE CF) : FnOk P w K mg base CX0 (k + 1) f fd ["self", "word", "block", "told"] (spFrame CF) := by
  have sc := scFrame___init__
  refine F.ok sc (fun vs H Q E h => ?_) (fun cdv A outer s H vs Q E hr h => ?_)
  · obtain ⟨y, dy, w, bv, tv, rfl, _⟩ := h
    rfl
  · obtain ⟨y, dy, w, bv, tv, rfl, hy, q⟩ := h
    refine ⟨_, (pss_cons (ps_fld (pv 0) (pv 1) rfl)
      (pss_cons (ps_fld (pv 0) (pv 2) rfl)
      (pss_cons (ps_fld (pv 0) (pv 3) rfl)
      (pss_one (ps_fld (pv 0) pe_int rfl))))), ?_⟩
    refine ⟨.str w, rfl, .ref y, rfl, y, CF, dy, [], rfl, hy, X.cF, X.n_word, by decide, ?_⟩
    refine ⟨bv, rfl, .ref y, rfl, y, CF, dy, [("word", .str w)], rfl, upd_same, X.cF, X.n_block, by show 1 < 1000; decide, ?_⟩
    refine ⟨tv, rfl, .ref y, rfl, y, CF, dy, [("word", .str w), ("block", bv)], rfl, upd_same, X.cF, X.n_told, by show 2 < 1000; decide, ?_⟩
    refine ⟨.ref y, rfl, y, CF, dy, [("word", .str w), ("block", bv), ("told", tv)], rfl, upd_same, X.cF, X.n_at, by show 3 < 1000; decide, ?_⟩
    refine q _ (fun a o n ha => ?_) upd_same
    rw [upd_ne n, upd_ne n, upd_ne n, upd_ne n]
    exact ha
/-! ### the next bit -/
def spBitM (K : PySem.W.Frag) (CE CF CN : Addr) : Sp := fun vs H Q E => ∃ (x : Addr) (c : Nat) (bits : List Nat) (bo : List (List Stm)) (s : Cf) (Hd Hb : Hp) (dx F B S bt : Addr) (bv : V) (fs : List FV) (bs : List BV) (svs : List V), vs = [.ref x] ∧ RepD K CE CF Hd H x c bits bo s dx F B S bt bv fs bs svs ∧ Ex Hb Hd ∧ s.taken ≤ bits.length ∧ bits.length ≤ 10000 ∧
  (∀ i, bitC bits s = .error i → ErrAt CN Hb i E) ∧ ∀ n s' H', bitC bits s = .ok (n, s') → RepD K CE CF Hd H' x c bits bo s' dx F B S bt bv fs bs svs → Q (.int (n : Int)) H'
theorem ev_exf {te : TE} {fl : List (Str × V)} {f : Str} {v : V} (hc : Cls K CE) (nf : NoAttr K CE f) (h : Ev te σ H (.ref x)) (hx : H x = some (.ins CE dx fl)) (hv : fl.lookup f = some v) : Ev (tFld K te f) σ H v := ev_fld hc nf h hx hv
theorem ok_bit {f fN : Addr} {fd fdN : FuncData} {k : Nat} (Fm : Fun K "_bit" "Execution._bit" sExecution__bit f fd) (X : ExC K CE CF) (z_len : mg "len" = none)
    (TN : OexC K CN) (iN : PySem.W.findIn K (.ref CN) "__init__" = some (some (.ref fN))) (tN : PySem.W.typeIn K (.ref fN) = some (.type "function")) (FN : FnOk P w K mg base CX0 16 fN fdN ["self", "index"] (spNR K CN)) (bN : Binds K fdN ["self", "index"] []) (gN : mg "NoRun" = some (.ref CN)) (hk : 17 ≤ k) :
    FnOk P w K mg base (L2.CX P w) (k + 1) f fd ["self"] (spBitM K CE CF CN) := by
  have sc := scExecution__bit
  refine Fm.okX sc (fun vs H Q E h => ?_) (fun cdv A outer s H vs Q E hr h => ?_)
  · obtain ⟨x, c, bits, bo, s, Hd, Hb, dx, F, B, S, bt, bv, fs, bs, svs, rfl, _⟩ := h
    rfl
  · obtain ⟨x, c, bits, bo, s, Hd, Hb, dx, F, B, S, bt, bv, fs, bs, svs, rfl, r, eb, hle, hln, qe, qo⟩ := h
    refine ⟨_, (pss_cons (ps_if (pt_cmpR op_eq (pe_fld (pv 0) rfl) (pe_callB call_len_seq (by rfl) z_len (by decide +kernel) (pa_cons (pe_fld (pv 0) rfl) pa_nil)) (nomark _))
      (pss_one (ps_raise rfl (takes_of rfl rfl rfl rfl) (pmk_oex TN iN tN FN (hr.mono (by omega)) bN .nil pass0 (by rfl) gN (pa_cons (pe_callB call_len_seq (by rfl) z_len (by decide +kernel) (pa_cons (pe_fld (pv 0) rfl) pa_nil)) pa_nil))))
      pss_nil)
      (pss_cons (ps_fld (pv 0) (pe_op op_add (pe_fld (pv 0) rfl) pe_int) rfl)
      (pss_one (ps_ret (pe_ix ix_list (pe_fld (pv 0) rfl) (pe_op op_sub (pe_fld (pv 0) rfl) pe_int) (fun _ _ => rfl)))))), ?_⟩
    have hbt := fun {H' : Hp} (e : Ex H H') => ex_l (r.own.ex.trans e) r.hbt
    by_cases ht : s.taken = bits.length
    · refine q_when (b := true) (et_is (et_test (ev_op (ev_exf X.cE X.n_taken (ev_var rfl) r.hx rfl) (ev_lenS (ev_exf X.cE X.n_bits (ev_var rfl) r.hx rfl) (.inl (hbt (Ex.refl _)))) (rv_eq rfl))) (by rw [List.length_map, ht]; simp)) (fun _ H1 e1 => ?_) (fun h => (nomatch h))
      refine mk_nr (ev_lenS (ev_exf X.cE X.n_bits (ev_var rfl) (e1 _ _ r.hx) rfl) (.inl (hbt e1))) fun d H2 e2 hd h2 => ?_
      have := qe (bits.length : Int) (by rw [bitC, if_pos ht])
      rw [List.length_map] at h2
      exact this d H2 (((eb.trans r.own.ex).trans e1).trans e2) (fresh_back ((eb.trans r.own.ex).trans e1) hd) h2
    · refine q_when (b := false) (et_is (et_test (ev_op (ev_exf X.cE X.n_taken (ev_var rfl) r.hx rfl) (ev_lenS (ev_exf X.cE X.n_bits (ev_var rfl) r.hx rfl) (.inl (hbt (Ex.refl _)))) (rv_eq rfl))) (by rw [List.length_map]; simp; omega)) (fun h => (nomatch h)) (fun _ H1 e1 => ?_)
      have r1 := r.mono e1
      refine ⟨.ref x, rfl, x, CE, dx, _, .int (s.taken : Int), rfl, r1.hx, X.cE, X.n_taken, rfl, (s.taken : Int), 1, rfl, rfl, ?_⟩
      refine ⟨.ref x, rfl, x, CE, dx, _, rfl, r1.hx, X.cE, X.n_taken, by show 9 < 1000; decide, ?_⟩
      have hz : ((s.taken : Int) + 1) = ((s.taken + 1 : Nat) : Int) := by omega
      dsimp only
      rw [hz, putF_taken]
      have r2 := r1.setX (s.taken + 1) s.len s.way
      generalize upd H1 x (.ins CE dx (exF bv c bt (s.taken + 1) F B S s.len s.way)) = H2 at r2 ⊢
      have hlt : s.taken < bits.length := by omega
      refine s_ret (ev_op (ev_exf X.cE X.n_bits (ev_var rfl) r2.hx rfl) (ev_op (ev_exf X.cE X.n_taken (ev_var rfl) r2.hx rfl) ev_c rv_I0) (z := .int ((bits.getD s.taken 0 : Nat) : Int)) (rv_ixL (ex_l r2.own.ex r.hbt) (at_of (j := s.taken) (by show ((s.taken + 1 : Nat) : Int) - 1 = _; omega) (by rw [List.getElem?_map, List.getElem?_eq_getElem hlt, List.getD_eq_getElem?_getD, List.getElem?_eq_getElem hlt]; rfl)))) fun H3 e3 => ?_
      exact qo _ _ H3 (by rw [bitC, if_neg ht]) (r2.mono e3)
/-! ### a block is opened -/
def spOpen (K : PySem.W.Frag) (CE CF : Addr) : Sp := fun vs H Q _ => ∃ (x : Addr) (c : Nat) (bits : List Nat) (bo : List (List Stm)) (s : Cf) (Hd : Hp) (fr : Fr) (bv tv : V), vs = [.ref x, .str (wdS fr.w), bv, tv] ∧ Rep K CE CF Hd H x c bits bo s ∧ s.frs.length ≤ 90000 ∧ fr.pos = 0 ∧ (∀ a dx, FrOk K Hd ⟨a, dx, bv, tv, fr⟩) ∧
  ∀ H', Rep K CE CF Hd H' x c bits bo (opnC s fr) → Q .non H'
theorem ok_open {f fF : Addr} {fd fdF : FuncData} {k : Nat} (Fm : Fun K "_open" "Execution._open" sExecution__open f fd) (X : ExC K CE CF) (MF : Mak P w K mg base 2 "Frame" CF (spFrame CF) []) (hk : 3 ≤ k) :
    FnOk P w K mg base CX0 (k + 1) f fd ["self", "word", "block", "told"] (spOpen K CE CF) := by
  have sc := scExecution__open
  refine Fm.ok sc (fun vs H Q E h => ?_) (fun cdv A outer s H vs Q E hr h => ?_)
  · obtain ⟨x, c, bits, bo, s, Hd, fr, bv, tv, rfl, _⟩ := h
    rfl
  · obtain ⟨x, c, bits, bo, s, Hd, fr, bv', tv, rfl, ⟨dx, F, B, S, bt, bv, fs, bs, svs, r⟩, hl, hp, hfr, q⟩ := h
    refine ⟨_, (pss_one (ps_expr (pe_bm PySem.F.plainAttrs_list PySem.F.slot_list_append PySem.F.type_list_append mt_append (pe_fld (pv 0) rfl) (pa_cons (pe_mk MF hr (by omega) (by rfl) (pa_cons (pv 1) (pa_cons (pv 2) (pa_cons (pv 3) pa_nil)))) pa_nil)))), ?_⟩
    have lfs : fs.length = s.frs.length := by rw [← r.hfs, List.length_map]
    refine ⟨.ref x, rfl, x, CE, dx, _, .ref F, rfl, r.hx, X.cE, X.n_frames, rfl, .inl ⟨rfl, _, sq_of r.hF⟩, ?_⟩
    refine ⟨.str (wdS fr.w), rfl, bv', rfl, tv, rfl, ?_⟩
    intro y dy hy hdy ne
    have hy1 : (upd H dy (.own y)) y = none := by rw [upd_ne ne.symm]; exact hy
    have eN := (Ex.new (o := .own y) hdy).trans (Ex.new (o := .ins CF dy []) hy1)
    refine ⟨y, dy, wdS fr.w, bv', tv, rfl, upd_same, fun H2 o2 h2 => ⟨rfl, ?_⟩⟩
    have e2 : Ex H H2 := fun a o ha => o2 _ _ (fun z => by rw [z, hy] at ha; cases ha) (eN _ _ ha)
    have hF2 := e2 _ _ r.hF
    refine ⟨F, _, _, rfl, rfl, hF2, ?_, ?_⟩
    · rw [List.length_map, List.length_reverse, lfs]
      exact sz_lt (by omega)
    · have r2 := r.push (v := ⟨y, dy, bv', tv, fr⟩) e2 hy (by rw [h2, hp]; rfl) (hfr _ _)
      exact q _ ⟨dx, F, B, S, bt, bv, _, bs, svs, r2⟩
/-! ### a command -/
def spCommand (K : PySem.W.Frag) (CE CF : Addr) : Sp := fun vs H Q _ => ∃ (x : Addr) (c : Nat) (bits : List Nat) (bo : List (List Stm)) (s : Cf) (Hd : Hp) (k : Nat) (rw : Addr) (rr : List Int), vs = [.ref x, .int (k : Int), .ref rw] ∧ Rep K CE CF Hd H x c bits bo s ∧ s.steps.length ≤ 90000 ∧ SqL K Hd rw (rr.map V.int) ∧
  ∀ Hd' H', Ex Hd Hd' → Rep K CE CF Hd' H' x c bits bo (cmdC s k rr) → Q .non H'
theorem ok_cmd {f : Addr} {fd : FuncData} {k : Nat} (Fm : Fun K "_command" "Execution._command" sExecution__command f fd) (X : ExC K CE CF) : FnOk P w K mg base CX0 (k + 1) f fd ["self", "place", "row"] (spCommand K CE CF) := by
  have sc := scExecution__command
  refine Fm.ok sc (fun vs H Q E h => ?_) (fun cdv A outer s H vs Q E hr h => ?_)
  · obtain ⟨x, c, bits, bo, s, Hd, kk, rw, rr, rfl, _⟩ := h
    rfl
  · obtain ⟨x, c, bits, bo, s, Hd, kk, rw, rr, rfl, ⟨dx, F, B, S, bt, bv, fs, bs, svs, r⟩, hl, hrw, q⟩ := h
    refine ⟨_, (pss_cons (ps_expr (pe_bm PySem.F.plainAttrs_list PySem.F.slot_list_append PySem.F.type_list_append mt_append (pe_fld (pv 0) rfl) (pa_cons (pe_tup (pa_cons pe_str (pa_cons (pv 1) (pa_cons (pv 2) pa_nil)))) pa_nil)))
      (pss_one (ps_fld (pv 0) (pe_op op_add (pe_fld (pv 0) rfl) pe_int) rfl))), ?_⟩
    have lsv : svs.length = s.steps.length := by rw [dpa_len r.hst, List.length_map]
    refine ⟨.ref x, rfl, x, CE, dx, _, .ref S, rfl, r.hx, X.cE, X.n_steps, rfl, .inl ⟨rfl, _, sq_of r.hS⟩, ?_⟩
    refine ⟨.int (kk : Int), rfl, .ref rw, rfl, by show 3 ≤ sizeLine; decide, fun T nT => ?_⟩
    have eT := Ex.new (o := .tup [.str "put", .int (kk : Int), .ref rw]) nT
    obtain ⟨o1, eg⟩ := r.own.grow eT nT upd_same
    have r1 := r.up eg o1
    refine ⟨S, svs, _, rfl, rfl, r1.hS, sz_lt (by omega), ?_⟩
    have r2 := r1.step (v := .ref T) (t := .put kk rr) (.tup (st_of upd_same) (.cons (.str _) (.cons (.int _) (.cons (.lst (ex_l eg hrw) (dpa_ints rr)) .nil))))
    generalize upd (upd H T (.tup [.str "put", .int (kk : Int), .ref rw])) S (.lst (svs ++ [.ref T])) = H2 at r2 ⊢
    refine ⟨.ref x, rfl, x, CE, dx, _, .int (s.len : Int), rfl, r2.hx, X.cE, X.n_length, rfl, (s.len : Int), 1, rfl, rfl, ?_⟩
    refine ⟨.ref x, rfl, x, CE, dx, _, rfl, r2.hx, X.cE, X.n_length, by show 9 < 1000; decide, ?_⟩
    have hz : ((s.len : Int) + 1) = ((s.len + 1 : Nat) : Int) := by omega
    dsimp only
    rw [hz, putF_len]
    exact q _ _ eg ⟨dx, F, B, S, bt, bv, fs, bs, _, r2.setX s.taken (s.len + 1) s.way⟩
/-! ### a block is closed -/
def spClose (K : PySem.W.Frag) (CE CF : Addr) : Sp := fun vs H Q _ => ∃ (x : Addr) (c : Nat) (bits : List Nat) (bo : List (List Stm)) (s : Cf) (Hd : Hp) (f : Fr) (r : List Fr), vs = [.ref x] ∧ Rep K CE CF Hd H x c bits bo s ∧ s.frs = f :: r ∧ s.steps.length ≤ 90000 ∧
  ∀ Hd' H' (v : FV), Ex Hd Hd' → Rep K CE CF Hd' H' x c bits bo { s with frs := r, steps := clsS f s.steps } → v.f = f → FrOk K Hd' v → H' v.a = some (.ins CF v.dx (frF v.f v.bv v.tv (v.f.pos : Int))) → Hd' v.a = none → Q (.ref v.a) H'
theorem wd_eq (w : Wd) (u : Wd) : decide (V.str (wdS w) = V.str (wdS u)) = decide (w = u) := by cases w <;> cases u <;> decide +kernel
theorem ok_close {f : Addr} {fd : FuncData} {k : Nat} (Fm : Fun K "_close" "Execution._close" sExecution__close f fd) (X : ExC K CE CF) : FnOk P w K mg base CX0 (k + 1) f fd ["self"] (spClose K CE CF) := by
  have sc := scExecution__close
  refine Fm.ok sc (fun vs H Q E h => ?_) (fun cdv A outer s H vs Q E hr h => ?_)
  · obtain ⟨x, c, bits, bo, s, Hd, f, r, rfl, _⟩ := h
    rfl
  · obtain ⟨x, c, bits, bo, s, Hd, fr, rs, rfl, ⟨dx, F, B, S, bt, bv, fs, bs, svs, r⟩, hs, hl, q⟩ := h
    refine ⟨_, (pss_cons (ps_set (i := 1) sc.nd rfl (by first | exact Or.inl rfl | exact Or.inr rfl) (pe_bm0 PySem.F.plainAttrs_list PySem.F.slot_list_pop PySem.F.type_list_pop mt_pop (pe_fld (pv 0) rfl)))
      (pss_cons (ps_if (pt_cmpR op_eq (pe_fld (pv 1) rfl) pe_str (nomark _))
      (pss_one (ps_expr (pe_bm PySem.F.plainAttrs_list PySem.F.slot_list_append PySem.F.type_list_append mt_append (pe_fld (pv 0) rfl) (pa_cons (pe_tup (pa_cons pe_str pa_nil)) pa_nil))))
      pss_nil)
      (pss_one (ps_ret (pv 1))))), ?_⟩
    have lsv : svs.length = s.steps.length := by rw [dpa_len r.hst, List.length_map]
    have hm := r.hfs
    cases fs with
    | nil => rw [hs] at hm; cases hm
    | cons v fs =>
      have hv := r.hf (List.mem_cons_self ..)
      have hok := r.hfr v (List.mem_cons_self ..)
      have nv : Hd v.a = none := r.own.no (FV.o CF v) (by simp [exL])
      obtain ⟨hvf, r1⟩ := r.pop hs
      have hne : v.a ≠ F := fun z => by rw [z, r.hF] at hv; cases hv
      refine ⟨.ref x, rfl, x, CE, dx, _, .ref F, rfl, r.hx, X.cE, X.n_frames, rfl, .inl ⟨rfl, _, sq_of r.hF⟩, ?_⟩
      refine ⟨F, _, .ref v.a, rfl, rfl, r.hF, by simp, ?_⟩
      have hdl : ((v :: fs).reverse.map fun v => V.ref v.a).dropLast = fs.reverse.map fun v => V.ref v.a := by simp
      rw [hdl]
      have hv1 : (upd H F (.lst (fs.reverse.map fun v => V.ref v.a))) v.a = some (.ins CF v.dx (frF v.f v.bv v.tv (v.f.pos : Int))) := by rw [upd_ne hne]; exact hv
      generalize upd H F (.lst (fs.reverse.map fun v => V.ref v.a)) = H1 at r1 hv1 ⊢
      refine q_when (b := decide (fr.w = .keep)) (et_is (et_test (ev_op (ev_fld X.cF X.n_word (ev_var rfl) hv1 rfl) ev_c (rv_eq rfl))) (by rw [← hvf]; exact wd_eq v.f.w .keep)) (fun hb H2 e2 => ?_) (fun hb H2 e2 => ?_)
      · have r2 := r1.mono e2
        refine ⟨.ref x, rfl, x, CE, dx, _, .ref S, rfl, r2.hx, X.cE, X.n_steps, rfl, .inl ⟨rfl, _, sq_of r2.hS⟩, ?_⟩
        refine ⟨by show 1 ≤ sizeLine; decide, fun T nT => ?_⟩
        have eT := Ex.new (o := .tup [.str "back"]) nT
        obtain ⟨o3, eg⟩ := r2.own.grow eT nT upd_same
        have r3 := r2.up eg o3
        refine ⟨S, svs, _, rfl, rfl, r3.hS, sz_lt (by omega), ?_⟩
        have r4 := r3.step (v := .ref T) (t := .back) (.tup (st_of upd_same) (.cons (.str _) .nil))
        have hvT := eT _ _ (e2 _ _ hv1)
        have hvS : v.a ≠ S := fun z => by rw [z, r3.hS] at hvT; cases hvT
        refine s_ret (ev_var rfl) fun H5 e5 => q (upd Hd T (.tup [.str "back"])) H5 v eg ⟨dx, F, B, S, bt, bv, fs, bs, svs ++ [.ref T], ?_⟩ hvf (hok.ex eg) (e5 _ _ (by rw [upd_ne hvS]; exact hvT)) ?_
        · have r5 := r4.mono e5
          rw [clsS, if_pos (of_decide_eq_true hb)]
          exact r5
        · rw [upd_ne fun z => by rw [← z, e2 _ _ hv1] at nT; cases nT]
          exact nv
      · refine s_ret (ev_var rfl) fun H5 e5 => q Hd H5 v (Ex.refl _) ⟨dx, F, B, S, bt, bv, fs, bs, svs, ?_⟩ hvf hok (e5 _ _ (e2 _ _ hv1)) nv
        have r5 := (r1.mono e2).mono e5
        rw [clsS, if_neg (of_decide_eq_false hb)]
        exact r5
end
section
variable {P : Program} {w : World} {K : PySem.W.Frag} {mg : Str → Option Value} {base : Heap} {σ : L2.St} {Hd Hd' H H' H0 : Hp}
variable {CE CF CN x dx F B S bt : Addr} {c : Nat} {bits : List Nat} {bo : List (List Stm)} {s : Cf} {bv : V} {fs : List FV} {bs : List BV} {svs : List V}
theorem dp_bodies {p : Nat} (h : Dp K H bv (toB bo)) (hp : p < bo.length) : ∃ a xs v, bv = .ref a ∧ SqL K H a xs ∧ xs.length = bo.length ∧ xs[p]? = some v ∧ Dp K H v (.list (toDs (bo.getD p []))) := by
  obtain ⟨a, xs, rfl, ha, hx⟩ := dp_lst h
  have hd : (bo.map bD)[p]? = some (.list (toDs (bo.getD p []))) := by
    rw [List.getElem?_map, List.getElem?_eq_getElem hp, List.getD_eq_getElem?_getD, List.getElem?_eq_getElem hp]; rfl
  obtain ⟨v, hv, dv⟩ := dpa_get hx hd
  exact ⟨a, xs, v, rfl, ha, by rw [dpa_len hx, List.length_map], hv, dv⟩
theorem bs_at {p : Nat} (hb : bs.map (·.l) = s.begun) (hp : p < s.begun.length) : ∃ v, bs[p]? = some v ∧ v.l = s.begun.getD p [] ∧ v ∈ bs := by
  have hl : p < bs.length := by rw [← hb, List.length_map] at hp; exact hp
  refine ⟨bs[p], List.getElem?_eq_getElem hl, ?_, List.getElem_mem hl⟩
  rw [← hb, List.getD_eq_getElem?_getD, List.getElem?_map, List.getElem?_eq_getElem hl]; rfl
theorem last_split {α : Type} {l : List α} {v : α} (h : l.getLast? = some v) : ∃ r, l = r ++ [v] := by
  cases l with
  | nil => cases h
  | cons a r =>
    refine ⟨(a :: r).dropLast, ?_⟩
    have h2 : (a :: r).getLast (by simp) = v := Option.some.inj h
    rw [← h2]
    exact (List.dropLast_concat_getLast (by simp)).symm
/-! ### a call begins -/
def spBegin (K : PySem.W.Frag) (CE CF CN : Addr) : Sp := fun vs H Q E => ∃ (x : Addr) (c : Nat) (bits : List Nat) (bo : List (List Stm)) (s : Cf) (Hd Hb : Hp) (p : Nat) (u : V) (nx : Option (List Stm × List Stm)), vs = [.ref x, .int (p : Int), u] ∧ Rep K CE CF Hd H x c bits bo s ∧ Ex Hb Hd ∧
  p < bo.length ∧ s.begun.length = bo.length ∧ s.frs.length ≤ 90000 ∧ (∀ l ∈ s.begun, l.length ≤ 90000) ∧ (∀ a b, nx = some (a, b) → Dp K Hd u (.list [.list (toDs a), .list (toDs b)])) ∧
  (∀ i, bgnC bo s p nx = .error i → ErrAt CN Hb i E) ∧ ∀ s' Hd' H', bgnC bo s p nx = .ok s' → Ex Hd Hd' → Rep K CE CF Hd' H' x c bits bo s' → Q .non H'
theorem ok_begin {f fN fO : Addr} {fd fdN fdO : FuncData} {k : Nat} (Fm : Fun K "_begin" "Execution._begin" sExecution__begin f fd) (X : ExC K CE CF)
    (FO : FnOk P w K mg base CX0 4 fO fdO ["self", "word", "block", "told"] (spOpen K CE CF)) (mO : Meth K CE "_open" fO) (bO : Binds K fdO ["self", "word", "block", "told"] [])
    (TN : OexC K CN) (iN : PySem.W.findIn K (.ref CN) "__init__" = some (some (.ref fN))) (tN : PySem.W.typeIn K (.ref fN) = some (.type "function")) (FN : FnOk P w K mg base CX0 16 fN fdN ["self", "index"] (spNR K CN)) (bN : Binds K fdN ["self", "index"] []) (gN : mg "NoRun" = some (.ref CN)) (hk : 17 ≤ k) :
    FnOk P w K mg base (L2.CX P w) (k + 1) f fd ["self", "procedure", "blocks"] (spBegin K CE CF CN) := by
  have sc := scExecution__begin
  refine Fm.okX sc (fun vs H Q E h => ?_) (fun cdv A outer s H vs Q E hr h => ?_)
  · obtain ⟨x, c, bits, bo, s, Hd, Hb, p, u, nx, rfl, _⟩ := h
    rfl
  · obtain ⟨x, c, bits, bo, s, Hd, Hb, p, u, nx, rfl, ⟨dx, F, B, S, bt, bv, fs, bs, svs, r⟩, eb, hp, hbl, hfl, hbn, hu, qe, qo⟩ := h
    refine ⟨_, (pss_cons (ps_set (i := 3) sc.nd rfl (by first | exact Or.inl rfl | exact Or.inr rfl) (pe_ix ix_list (pe_fld (pv 0) rfl) (pv 1) (fun _ _ => rfl)))
      (pss_cons (ps_if (PW.pt (pw_and (pt_truth (pv 3) (by intro _; rfl)) (pw_and1 (pt_cmpR op_eq (pe_ix ix_list (pv 3) (pe_un un_neg pe_int) (fun _ _ => rfl)) (pe_fld (pv 0) rfl) (nomark _)))))
      (pss_one (ps_raise rfl (takes_of rfl rfl rfl rfl) (pmk_oex TN iN tN FN (hr.mono (by omega)) bN .nil pass0 (by rfl) gN (pa_cons (pe_un un_neg pe_int) pa_nil))))
      pss_nil)
      (pss_cons (ps_expr (pe_bm PySem.F.plainAttrs_list PySem.F.slot_list_append PySem.F.type_list_append mt_append (pv 3) (pa_cons (pe_fld (pv 0) rfl) pa_nil)))
      (pss_one (ps_expr (pe_meth (pv 0) X.cE mO FO (hr.mono (by omega)) bO .nil pass0 (pa_cons pe_str (pa_cons (pe_ix ix_list (pe_fld (pv 0) rfl) (pv 1) (fun _ _ => rfl)) (pa_cons (pe_tup (pa_cons (pv 1) (pa_cons (pv 2) pa_nil))) pa_nil))))))))), ?_⟩
    obtain ⟨v, hv, hvl, hvm⟩ := bs_at (p := p) r.hbs (by omega)
    refine q_asg (v := .ref v.a) (ev_op (ev_exf X.cE X.n_begun (ev_var rfl) r.hx rfl) (ev_var rfl) (rv_ixL (sq_of r.hB) (atI_nat (by rw [List.getElem?_map, hv]; rfl)))) fun H1 e1 => ?_
    have r1 := r.mono e1
    have hb1 := r1.hb hvm
    have ebH := eb.trans (r.own.ex.trans e1)
    have test : EvT (tAnd (fun σ H Q => tVar 3 σ H fun x H' => ∃ k, TruV K x H' k ∧ Q k H') (tTest (tOp rEq (tOp (rIxL K) (tVar 3) (tUn (rU fun i => .int (-i)) (tC (.int 1)))) (tFld K (tVar 0) "_taken")))) [some (.ref x), some (.int (p : Int)), some u, some (.ref v.a)] H1 (decide ((s.begun.getD p []).getLast? = some s.taken)) := by
      cases hl : (s.begun.getD p []).getLast? with
      | none =>
        have : v.l = [] := by rw [hvl]; exact List.getLast?_eq_none_iff.mp hl
        refine et_is (et_and (a := false) (b := false) (et_is (et_truL (ev_var rfl) (sq_of hb1)) (by rw [this]; rfl)) fun h => (nomatch h)) (by simp)
      | some z =>
        obtain ⟨l0, hl0⟩ := last_split hl
        rw [hvl, hl0] at hb1
        refine et_is (et_and (a := true) (b := decide (z = s.taken)) (et_is (et_truL (ev_var rfl) (sq_of hb1)) (by simp)) fun _ => ?_) (by simp)
        refine et_is (et_test (ev_op (ev_op (ev_var rfl) (ev_un ev_c ru_neg) (rv_ixL (sq_of hb1) (by rw [List.map_append]; exact atI_last _ _))) (ev_exf X.cE X.n_taken (ev_var rfl) r1.hx rfl) (rv_eq rfl))) ?_
        rw [decide_eq_decide]
        constructor
        · intro h
          have := V.int.inj h
          omega
        · intro h; rw [h]; rfl
    by_cases hc : (s.begun.getD p []).getLast? = some s.taken
    · refine q_when (et_is test (decide_eq_true hc)) (fun _ H2 e2 => ?_) (fun h => (nomatch h))
      refine mk_nr (i := -2) (ev_un ev_c ru_neg) fun d H3 e3 hd h3 => ?_
      exact qe (-2) (by rw [bgnC, if_pos hc]) d H3 ((ebH.trans e2).trans e3) (fresh_back (ebH.trans e2) hd) h3
    · refine q_when (et_is test (decide_eq_false hc)) (fun h => (nomatch h)) (fun _ H2 e2 => ?_)
      have r2 := r1.mono e2
      -- begun.append(self._taken)
      have hb2 := r2.hb hvm
      refine ⟨.ref v.a, rfl, .inl ⟨rfl, _, sq_of hb2⟩, .ref x, rfl, x, CE, dx, _, .int (s.taken : Int), rfl, r2.hx, X.cE, X.n_taken, rfl, v.a, _, _, rfl, rfl, hb2, ?_, ?_⟩
      · rw [List.length_map]
        exact sz_lt (by have := hbn v.l (by rw [← r.hbs]; exact List.mem_map_of_mem (f := BV.l) hvm); omega)
      have r3 := r2.setB hv (v.l ++ [s.taken])
      rw [show (v.l ++ [s.taken]).map nV = v.l.map nV ++ [.int (s.taken : Int)] by rw [List.map_append]; rfl] at r3
      generalize upd H2 v.a (.lst (v.l.map nV ++ [.int (s.taken : Int)])) = H3 at r3 ⊢
      -- self._open(..)
      obtain ⟨ba, bx, bi, hbv, hba, hbxl, hbi, hbd⟩ := dp_bodies (p := p) r3.hbo hp
      subst hbv
      refine ⟨.ref x, rfl, x, dx, _, rfl, r3.hx, rfl, ?_⟩
      refine ⟨.ref x, rfl, x, CE, dx, _, .ref ba, rfl, r3.hx, X.cE, X.n_bodies, rfl, .int (p : Int), rfl, ba, bx, (p : Int), bi, rfl, rfl, ex_l r3.own.ex hba, atI_nat hbi, .int (p : Int), rfl, u, rfl, by show 2 ≤ sizeLine; decide, fun T nT => ?_⟩
      have eT := Ex.new (o := .tup [.int (p : Int), u]) nT
      obtain ⟨o4, eg⟩ := r3.own.grow eT nT upd_same
      have r4 := r3.up eg o4
      refine ⟨x, c, bits, bo, _, L2.upd Hd T (.tup [.int (p : Int), u]), ⟨.body, bo.getD p [], 0, p, nx⟩, bi, .ref T, rfl, ⟨dx, F, B, S, bt, _, fs, _, svs, r4⟩, hfl, rfl, fun a dx => ⟨dp_ex eg _ _ hbd, fun _ => ⟨T, u, rfl, st_of upd_same, fun a b z => dp_ex eg _ _ (hu a b z)⟩⟩, fun H5 r5 => qo _ _ H5 (by rw [bgnC, if_neg hc]) eg ?_⟩
      rw [hvl] at r5
      exact r5
/-! ### a procedure ends -/
def EndOk (begun : List (List Nat)) : List Fr → Prop
  | [] => False
  | f :: r => if f.w = .body then f.proc < begun.length ∧ begun.getD f.proc [] ≠ [] ∧ (r ≠ [] → f.nxt.isSome) else EndOk begun r
def endF (way : Nat) (s : Cf) (f : Fr) (r : List Fr) (st : List Stp) : Cf := if f.w = .body then
      (if r = [] then { s with frs := [], steps := st, begun := s.begun.set f.proc (s.begun.getD f.proc []).dropLast, way := way }
       else { s with frs := ⟨.block, nxB way f, 0, 0, none⟩ :: r, steps := st ++ [.back], begun := s.begun.set f.proc (s.begun.getD f.proc []).dropLast })
    else endL way s r st
theorem endL_F (way : Nat) (s : Cf) (f : Fr) (r : List Fr) (st : List Stp) : endL way s (f :: r) st = endF way s f r (clsS f st) := by
  rw [endL, endF]
  by_cases h : f.w = .body
  · have : clsS f st = st := by rw [clsS, if_neg (by rw [h]; decide)]
    rw [if_pos h, if_pos h, this]
  · rw [if_neg h, if_neg h]
theorem clsS_len (f : Fr) (st : List Stp) : (clsS f st).length ≤ st.length + 1 := by
  unfold clsS
  split
  · rw [List.length_append]; exact Nat.le_refl _
  · omega
def spEnd (K : PySem.W.Frag) (CE CF : Addr) : Sp := fun vs H Q _ => ∃ (x : Addr) (c : Nat) (bits : List Nat) (bo : List (List Stm)) (s : Cf) (Hd : Hp) (way : Nat), vs = [.ref x, .int (way : Int)] ∧ Rep K CE CF Hd H x c bits bo s ∧ way < 2 ∧ EndOk s.begun s.frs ∧ s.steps.length + s.frs.length ≤ 80000 ∧
  ∀ Hd' H', Ex Hd Hd' → Rep K CE CF Hd' H' x c bits bo (endC way s) → Q .non H'
theorem ok_end {f fO fC : Addr} {fd fdO fdC : FuncData} {k : Nat} (Fm : Fun K "_end" "Execution._end" sExecution__end f fd) (X : ExC K CE CF)
    (FO : FnOk P w K mg base CX0 4 fO fdO ["self", "word", "block", "told"] (spOpen K CE CF)) (mO : Meth K CE "_open" fO) (bO : Binds K fdO ["self", "word", "block", "told"] [])
    (FC : FnOk P w K mg base CX0 1 fC fdC ["self"] (spClose K CE CF)) (mC : Meth K CE "_close" fC) (bC : Binds K fdC ["self"] []) (hk : 4 ≤ k) :
    FnOk P w K mg base CX0 (k + 1) f fd ["self", "way"] (spEnd K CE CF) := by
  have sc := scExecution__end
  refine Fm.ok sc (fun vs H Q E h => ?_) (fun cdv A outer s H vs Q E hr h => ?_)
  · obtain ⟨x, c, bits, bo, s, Hd, way, rfl, _⟩ := h
    rfl
  · obtain ⟨x, c, bits, bo, s, Hd, way, rfl, ⟨dx, F, B, S, bt, bv, fs, bs, svs, r⟩, hw, hend, hl, q⟩ := h
    refine ⟨_, (pss_cons (ps_set (i := 2) sc.nd rfl (by first | exact Or.inl rfl | exact Or.inr rfl) (pe_meth0 (pv 0) X.cE mC FC (hr.mono (by omega)) bC .nil pass0))
      (pss_cons (ps_while PassesOwn.never (pt_cmpR op_ne (pe_fld (pv 2) rfl) pe_str (nomark _))
      (pss_one (ps_set (i := 2) sc.nd rfl (by first | exact Or.inl rfl | exact Or.inr rfl) (pe_meth0 (pv 0) X.cE mC FC (hr.mono (by omega)) bC .nil pass0))))
      (pss_cons (ps_asg (pe_fld (pv 2) rfl) (pg_tup (by rfl) (pgs_cons (pg_name (i := 3) sc.nd rfl (by first | exact Or.inl rfl | exact Or.inr rfl)) (pgs_cons (pg_name (i := 4) sc.nd rfl (by first | exact Or.inl rfl | exact Or.inr rfl)) pgs_nil))))
      (pss_cons (ps_expr (pe_bm0 PySem.F.plainAttrs_list PySem.F.slot_list_pop PySem.F.type_list_pop mt_pop (pe_ix ix_list (pe_fld (pv 0) rfl) (pv 3) (fun _ _ => rfl))))
      (pss_cons (ps_if (pt_not (pt_truth (pe_fld (pv 0) rfl) (by intro _; rfl)))
      (pss_cons (ps_fld (pv 0) (pv 1) rfl)
      (pss_one ps_retN))
      pss_nil)
      (pss_cons (ps_expr (pe_bm PySem.F.plainAttrs_list PySem.F.slot_list_append PySem.F.type_list_append mt_append (pe_fld (pv 0) rfl) (pa_cons (pe_tup (pa_cons pe_str pa_nil)) pa_nil)))
      (pss_one (ps_expr (pe_meth (pv 0) X.cE mO FO (hr.mono (by omega)) bO .nil pass0 (pa_cons pe_str (pa_cons (pe_ix ix_list (pv 4) (pv 1) (fun _ _ => rfl)) (pa_cons pe_non pa_nil)))))))))))), ?_⟩
    obtain ⟨f0, rs0, hs⟩ : ∃ f0 rs0, s.frs = f0 :: rs0 := by
      cases h : s.frs with
      | nil => rw [h, EndOk] at hend; exact hend.elim
      | cons a b => exact ⟨a, b, rfl⟩
    refine q_run ?_
    refine ⟨.ref x, rfl, x, dx, _, rfl, r.hx, rfl, ?_⟩
    refine ⟨x, c, bits, bo, s, Hd, f0, rs0, rfl, ⟨dx, F, B, S, bt, bv, fs, bs, svs, r⟩, hs, by omega, fun Hd1 H1 v1 eg1 r1 hv1 hok1 hvo1 hn1 => ?_⟩
    -- while frame.word != 'body'
    refine Evl.q_while (fun m σ' H' => ∃ (f : Fr) (rs : List Fr) (st : List Stp) (Hd' : Hp) (v : FV), σ' = [some (.ref x), some (.int (way : Int)), some (.ref v.a), none, none] ∧ m = rs.length ∧ Ex Hd Hd' ∧ Rep K CE CF Hd' H' x c bits bo { s with frs := rs, steps := st } ∧ v.f = f ∧ FrOk K Hd' v ∧ H' v.a = some (.ins CF v.dx (frF v.f v.bv v.tv (v.f.pos : Int))) ∧ EndOk s.begun (f :: rs) ∧ endC way s = endF way s f rs st ∧ st.length + rs.length ≤ 80000) rs0.length
      ⟨f0, rs0, clsS f0 s.steps, Hd1, v1, rfl, rfl, eg1, r1, hv1, hok1, hvo1, by rw [← hs]; exact hend, by rw [endC, hs, endL_F], by have := clsS_len f0 s.steps; rw [hs, List.length_cons] at hl; omega⟩ (fun m σ' H2 hP => ?_)
    obtain ⟨f, rs, st, Hd2, v, rfl, rfl, eg2, r2, hv, hok, hvo, hE, hC, hL⟩ := hP
    refine ⟨!decide (f.w = .body), et_is (et_test (ev_op (ev_fld X.cF X.n_word (ev_var rfl) hvo rfl) ev_c (rv_ne rfl))) (by rw [← hv]; exact congrArg (!·) (wd_eq v.f.w .body)), fun hb H3 e3 => ?_, fun hb H3 e3 => ?_⟩
    · have hnb : ¬ f.w = .body := by
        intro z
        rw [decide_eq_true z] at hb
        cases hb
      rw [EndOk, if_neg hnb] at hE
      obtain ⟨f', rs', hrs⟩ : ∃ f' rs', rs = f' :: rs' := by
        cases h : rs with
        | nil => rw [h, EndOk] at hE; exact hE.elim
        | cons a b => exact ⟨a, b, rfl⟩
      subst hrs
      obtain ⟨dx2, F2, B2, S2, bt2, bv2, fs2, bs2, svs2, r2⟩ := r2
      have r3 := r2.mono e3
      refine ⟨fun σ' H' => ∃ (f : Fr) (rs : List Fr) (st : List Stp) (Hd' : Hp) (v : FV), σ' = [some (.ref x), some (.int (way : Int)), some (.ref v.a), none, none] ∧ rs.length < (f' :: rs').length ∧ Ex Hd Hd' ∧ Rep K CE CF Hd' H' x c bits bo { s with frs := rs, steps := st } ∧ v.f = f ∧ FrOk K Hd' v ∧ H' v.a = some (.ins CF v.dx (frF v.f v.bv v.tv (v.f.pos : Int))) ∧ EndOk s.begun (f :: rs) ∧ endC way s = endF way s f rs st ∧ st.length + rs.length ≤ 80000, fun σ2 H2 hN => ?_, ?_⟩
      · obtain ⟨f, rs, st, Hd', v, h1, h2, h3⟩ := hN
        exact ⟨rs.length, h2, f, rs, st, Hd', v, h1, rfl, h3⟩
      · refine ⟨.ref x, rfl, x, dx2, _, rfl, r3.hx, rfl, ?_⟩
        refine ⟨x, c, bits, bo, { s with frs := f' :: rs', steps := st }, Hd2, f', rs', rfl, ⟨dx2, F2, B2, S2, bt2, bv2, fs2, bs2, svs2, r3⟩, rfl, by show st.length ≤ 90000; omega, fun Hd4 H4 v4 eg4 r4 hv4 hok4 hvo4 hn4 => ?_⟩
        exact ⟨f', rs', clsS f' st, Hd4, v4, rfl, Nat.lt_succ_self _, eg2.trans eg4, r4, hv4, hok4, hvo4, hE, by rw [hC, endF, if_neg hnb, endL_F], by have := clsS_len f' st; rw [List.length_cons] at hL; omega⟩
    · have hbody : f.w = .body := by
        cases h : decide (f.w = .body) with
        | true => exact of_decide_eq_true h
        | false => rw [h] at hb; cases hb
      rw [EndOk, if_pos hbody] at hE
      obtain ⟨hproc, hne, hnx⟩ := hE
      rw [endF, if_pos hbody] at hC
      obtain ⟨dx2, F2, B2, S2, bt2, bv2, fs2, bs2, svs2, r2⟩ := r2
      have r3 := r2.mono e3
      have hvo3 := e3 _ _ hvo
      obtain ⟨t, u, htv, ht, hu⟩ := hok.2 (by rw [hv]; exact hbody)
      rw [hv] at ht hu
      -- procedure, blocks = frame.told
      refine ⟨.ref v.a, rfl, v.a, CF, v.dx, _, v.tv, rfl, hvo3, X.cF, X.n_told, rfl, t, _, htv, ex_t r3.own.ex ht, rfl, _, _, rfl, _, _, rfl, rfl, ?_⟩
      dsimp only
      -- self._begun[procedure].pop()
      obtain ⟨b, hb1, hbl, hbm⟩ := bs_at (p := f.proc) r3.hbs hproc
      have hbh := r3.hb hbm
      refine ⟨.ref x, rfl, x, CE, dx2, _, .ref B2, rfl, r3.hx, X.cE, X.n_begun, rfl, .int (f.proc : Int), rfl, B2, _, _, .ref b.a, rfl, rfl, sq_of r3.hB, atI_nat (by rw [List.getElem?_map, hb1]; rfl), .inl ⟨rfl, _, sq_of hbh⟩, b.a, b.l.map nV, ?_⟩
      have hbn : b.l ≠ [] := by rw [hbl]; exact hne
      obtain ⟨b0, bz, hb0⟩ : ∃ b0 bz, b.l = b0 ++ [bz] := ⟨b.l.dropLast, b.l.getLast hbn, (List.dropLast_concat_getLast hbn).symm⟩
      refine ⟨nV bz, rfl, rfl, hbh, by rw [hb0]; simp, ?_⟩
      have r4 := r3.setB hb1 b.l.dropLast
      rw [List.map_dropLast] at r4
      generalize upd H3 b.a (.lst (b.l.map nV).dropLast) = H4 at r4 ⊢
      rw [hbl] at r4
      have lfs : fs2.length = rs.length := by have := congrArg List.length r4.hfs; rw [List.length_map] at this; exact this
      -- if not self._frames
      refine q_when (b := decide (rs = [])) (et_is (et_not (et_truL (ev_exf X.cE X.n_frames (ev_var rfl) r4.hx rfl) (sq_of r4.hF))) ?_) (fun hz H5 e5 => ?_) (fun hz H5 e5 => ?_)
      · cases rs with
        | nil =>
          have : fs2 = [] := List.length_eq_zero_iff.mp lfs
          rw [this]; rfl
        | cons a b =>
          cases fs2 with
          | nil => rw [List.length_nil, List.length_cons] at lfs; omega
          | cons a' b' => simp
      · have hz := of_decide_eq_true hz
        rw [if_pos hz] at hC
        subst hz
        have r5 := r4.mono e5
        refine ⟨.int (way : Int), rfl, .ref x, rfl, x, CE, dx2, _, rfl, r5.hx, X.cE, X.n_way, by show 9 < 1000; decide, ?_⟩
        dsimp only
        rw [putF_way]
        refine q _ _ eg2 ?_
        rw [hC]
        exact ⟨dx2, F2, B2, S2, bt2, bv2, fs2, _, svs2, r5.setX s.taken s.len way⟩
      · have hz := of_decide_eq_false hz
        rw [if_neg hz] at hC
        have r5 := r4.mono e5
        have lsv : svs2.length = st.length := by have := dpa_len r5.hst; rw [List.length_map] at this; exact this
        refine ⟨.ref x, rfl, x, CE, dx2, _, .ref S2, rfl, r5.hx, X.cE, X.n_steps, rfl, .inl ⟨rfl, _, sq_of r5.hS⟩, by show 1 ≤ sizeLine; decide, fun T nT => ?_⟩
        have eT := Ex.new (o := .tup [.str "back"]) nT
        obtain ⟨o6, eg6⟩ := r5.own.grow eT nT upd_same
        have r6 := r5.up eg6 o6
        refine ⟨S2, svs2, _, rfl, rfl, r6.hS, sz_lt (by omega), ?_⟩
        have r7 := r6.step (v := .ref T) (t := .back) (.tup (st_of upd_same) (.cons (.str _) .nil))
        generalize upd (upd H5 T (.tup [.str "back"])) S2 (.lst (svs2 ++ [.ref T])) = H7 at r7 ⊢
        obtain ⟨⟨na, nb⟩, hnx2⟩ := Option.isSome_iff_exists.mp (hnx hz)
        have hub := dp_ex eg6 _ _ (hu na nb hnx2)
        obtain ⟨ua, ux, rfl, hua, hux⟩ := dp_lst hub
        obtain ⟨v0, x0, rfl, p0, q0⟩ := dpa1 hux
        obtain ⟨v1, x1, rfl, p1, q1⟩ := dpa1 q0
        rw [dpa0 q1] at hua
        have hnB : nxB way f = if way = 0 then na else nb := by rw [nxB, hnx2]
        rw [hnB] at hC
        refine ⟨.ref x, rfl, x, dx2, _, rfl, r7.hx, rfl, ?_⟩
        refine ⟨.ref ua, rfl, .int (way : Int), rfl, ua, _, (way : Int), if way = 0 then v0 else v1, rfl, rfl, ex_l r7.own.ex hua, ?_, ?_⟩
        · rcases (show way = 0 ∨ way = 1 by omega) with rfl | rfl <;> rfl
        refine ⟨x, c, bits, bo, _, L2.upd Hd2 T (.tup [.str "back"]), ⟨.block, if way = 0 then na else nb, 0, 0, none⟩, if way = 0 then v0 else v1, .non, rfl, ⟨dx2, F2, B2, S2, bt2, bv2, fs2, _, _, r7⟩, by show rs.length ≤ 90000; omega, rfl, fun a dx => ⟨?_, fun z => (nomatch z)⟩, fun H8 r8 => q _ H8 (eg2.trans eg6) ?_⟩
        · show Dp K _ (if way = 0 then v0 else v1) (.list (toDs (if way = 0 then na else nb)))
          split
          · exact p0
          · exact p1
        · rw [hC]
          exact r8
end
section
variable {P : Program} {w : World} {K : PySem.W.Frag} {mg : Str → Option Value} {base : Heap} {σ : L2.St} {Hd Hd' H H' H0 : Hp}
variable {CE CF CN x dx F B S bt : Addr} {c : Nat} {bits : List Nat} {bo : List (List Stm)} {s : Cf} {bv : V} {fs : List FV} {bs : List BV} {svs : List V}
/-! ### a block is left -/
def spLeave (K : PySem.W.Frag) (CE CF CN : Addr) : Sp := fun vs H Q E => ∃ (x : Addr) (c : Nat) (bits : List Nat) (bo : List (List Stm)) (s : Cf) (Hd Hb : Hp) (dx F B S bt : Addr) (bv : V) (v : FV) (fs : List FV) (bs : List BV) (svs : List V) (rs : List Fr), vs = [.ref x, .ref v.a] ∧ RepD K CE CF Hd H x c bits bo s dx F B S bt bv (v :: fs) bs svs ∧ s.frs = v.f :: rs ∧ Ex Hb Hd ∧
  s.taken ≤ bits.length ∧ bits.length ≤ 10000 ∧ (v.f.w = .body → EndOk s.begun s.frs) ∧ s.steps.length + s.frs.length ≤ 80000 ∧
  (∀ i, lveC bits s v.f rs = .error i → ErrAt CN Hb i E) ∧ ∀ s' Hd' H', lveC bits s v.f rs = .ok s' → Ex Hd Hd' → Rep K CE CF Hd' H' x c bits bo s' → Q .non H'
theorem ok_leave {f fE fC fB : Addr} {fd fdE fdC fdB : FuncData} {k : Nat} (Fm : Fun K "_leave" "Execution._leave" sExecution__leave f fd) (X : ExC K CE CF)
    (FE : FnOk P w K mg base CX0 5 fE fdE ["self", "way"] (spEnd K CE CF)) (mE : Meth K CE "_end" fE) (bE : Binds K fdE ["self", "way"] [])
    (FC : FnOk P w K mg base CX0 1 fC fdC ["self"] (spClose K CE CF)) (mC : Meth K CE "_close" fC) (bC : Binds K fdC ["self"] [])
    (FB : FnOk P w K mg base (L2.CX P w) 18 fB fdB ["self"] (spBitM K CE CF CN)) (mB : Meth K CE "_bit" fB) (bB : Binds K fdB ["self"] []) (hk : 18 ≤ k) :
    FnOk P w K mg base (L2.CX P w) (k + 1) f fd ["self", "frame"] (spLeave K CE CF CN) := by
  have sc := scExecution__leave
  refine Fm.okX sc (fun vs H Q E h => ?_) (fun cdv A outer s H vs Q E hr h => ?_)
  · obtain ⟨x, c, bits, bo, s, Hd, Hb, dx, F, B, S, bt, bv, v, fs, bs, svs, rs, rfl, _⟩ := h
    rfl
  · obtain ⟨x, c, bits, bo, s, Hd, Hb, dx, F, B, S, bt, bv, v, fs, bs, svs, rs, rfl, r, hs, eb, hle, hln, hend, hL, qe, qo⟩ := h
    refine ⟨_, (pss_one (ps_if (pt_cmpR op_eq (pe_fld (pv 1) rfl) pe_str (nomark _))
      (pss_one (ps_expr (pe_meth (pv 0) X.cE mE FE (hr.mono (by omega)) bE .nil pass0 (pa_cons pe_int pa_nil))))
      (pss_one (ps_if (PW.pt (pw_and (pt_cmpR op_eq (pe_fld (pv 1) rfl) pe_str (nomark _)) (pw_and1 (pt_cmpR op_eq (pe_meth0 (pv 0) X.cE mB FB (hr.mono (by omega)) bB .nil (passes_call (takes_of rfl rfl rfl rfl) fun _ _ _ _ h => h)) pe_int (nomark _)))))
      (pss_one (ps_fld (pv 1) pe_int rfl))
      (pss_one (ps_expr (pe_meth0 (pv 0) X.cE mC FC (hr.mono (by omega)) bC .nil pass0))))))), ?_⟩
    have hv := r.hf (List.mem_cons_self ..)
    have close : ∀ {H1 : Hp} {s1 : Cf}, RepD K CE CF Hd H1 x c bits bo s1 dx F B S bt bv (v :: fs) bs svs → s1.frs = v.f :: rs → s1.steps.length ≤ 90000 → lveC bits s v.f rs = .ok (clsC s1) → tDrop (tMeth CE "_close" (spClose K CE CF) [] E0 (tVar 0) tNil) { nx := fun _ H' => Q .non H', rt := Q } [some (.ref x), some (.ref v.a)] H1 := fun {H1 s1} r1 h1 h2 h3 => by
      refine ⟨.ref x, rfl, x, dx, _, rfl, r1.hx, rfl, ?_⟩
      refine ⟨x, c, bits, bo, s1, Hd, v.f, rs, rfl, ⟨dx, F, B, S, bt, bv, _, bs, svs, r1⟩, h1, h2, fun Hd2 H2 v2 eg2 r2 _ _ _ _ => qo _ Hd2 H2 h3 eg2 ?_⟩
      have : clsC s1 = { s1 with frs := rs, steps := clsS v.f s1.steps } := by rw [clsC, h1]
      rw [this]
      exact r2
    by_cases hb : v.f.w = .body
    · refine s_if (b := true) (et_is (et_test (ev_op (ev_fld X.cF X.n_word (ev_var rfl) hv rfl) ev_c (rv_eq rfl))) ((wd_eq v.f.w .body).trans (decide_eq_true hb))) (fun _ H1 e1 => ?_) (fun h => (nomatch h))
      have r1 := r.mono e1
      refine ⟨.ref x, rfl, x, dx, _, rfl, r1.hx, rfl, ?_⟩
      refine ⟨x, c, bits, bo, s, Hd, 0, rfl, ⟨dx, F, B, S, bt, bv, _, bs, svs, r1⟩, by decide, hend hb, hL, fun Hd2 H2 eg2 r2 => qo _ Hd2 H2 ?_ eg2 r2⟩
      rw [lveC, if_pos hb]
    refine s_if (b := false) (et_is (et_test (ev_op (ev_fld X.cF X.n_word (ev_var rfl) hv rfl) ev_c (rv_eq rfl))) ((wd_eq v.f.w .body).trans (decide_eq_false hb))) (fun h => (nomatch h)) (fun _ H1 e1 => ?_)
    have r1 := r.mono e1
    by_cases ha : v.f.w = .again
    · have hlv : lveC bits s v.f rs = lveA bits s v.f rs := by rw [lveC, if_neg hb, if_pos ha]
      refine (et_is (et_test (ev_op (ev_fld X.cF X.n_word (ev_var rfl) (e1 _ _ hv) rfl) ev_c (rv_eq rfl))) ((wd_eq v.f.w .again).trans (decide_eq_true ha))) H1 (Ex.refl _) _ fun H2 e2 => ?_
      have r2 := r1.mono e2
      rw [if_pos rfl]
      refine ⟨.ref x, rfl, x, dx, _, rfl, r2.hx, rfl, ?_⟩
      refine ⟨x, c, bits, bo, s, Hd, Hb, dx, F, B, S, bt, bv, _, bs, svs, rfl, r2, eb, hle, hln, fun i hi => qe i (by rw [hlv, lveA, hi]), fun n s' H3 hn r3 => ?_⟩
      rw [lveA, hn] at hlv
      have hfr : s'.frs = v.f :: rs ∧ s'.steps = s.steps := by
        rw [bitC] at hn
        split at hn
        · cases hn
        · cases hn
          exact ⟨hs, rfl⟩
      refine ⟨rfl, decide (V.int (n : Int) = V.int 1), rfl, ?_⟩
      by_cases h1 : n = 1
      · have hd : decide (V.int (n : Int) = V.int 1) = true := by rw [h1]; rfl
        rw [hd]
        dsimp only
        rw [if_pos rfl]
        have hv3 := r3.hf (List.mem_cons_self ..)
        refine ⟨.ref v.a, rfl, v.a, CF, v.dx, _, rfl, hv3, X.cF, X.n_at, by show 4 < 1000; decide, ?_⟩
        dsimp only
        rw [putF_at]
        refine qo _ Hd _ ?_ (Ex.refl _) ⟨dx, F, B, S, bt, bv, _, bs, svs, r3.setAt hfr.1 0⟩
        rw [hlv]
        dsimp only
        rw [if_pos h1]
      · have hd : decide (V.int (n : Int) = V.int 1) = false := by
          rw [decide_eq_false_iff_not]
          intro z
          have := V.int.inj z
          omega
        rw [hd]
        dsimp only
        rw [if_neg Bool.false_ne_true]
        refine close r3 hfr.1 (by rw [hfr.2]; omega) ?_
        rw [hlv]
        dsimp only
        rw [if_neg h1]
    · refine (et_is (et_test (ev_op (ev_fld X.cF X.n_word (ev_var rfl) (e1 _ _ hv) rfl) ev_c (rv_eq rfl))) ((wd_eq v.f.w .again).trans (decide_eq_false ha))) H1 (Ex.refl _) _ fun H2 e2 => ?_
      rw [if_neg Bool.false_ne_true]
      dsimp only
      rw [if_neg Bool.false_ne_true]
      refine close (r1.mono e2) hs (by omega) ?_
      rw [lveC, if_neg hb, if_neg ha]
/-! ### a statement begins -/
def spExec (K : PySem.W.Frag) (CE CF CN : Addr) : Sp := fun vs H Q E => ∃ (x : Addr) (c : Nat) (bits : List Nat) (bo : List (List Stm)) (s : Cf) (Hd Hb : Hp) (u : V) (st : Stm), vs = [.ref x, u] ∧ Dp K Hd u (toD st) ∧ Rep K CE CF Hd H x c bits bo s ∧ Ex Hb Hd ∧
  s.taken ≤ bits.length ∧ bits.length ≤ 10000 ∧ (∀ b ∈ bits, b ≤ 1) ∧ s.begun.length = bo.length ∧ (∀ l ∈ s.begun, l.length ≤ 90000) ∧ s.steps.length + s.frs.length ≤ 70000 ∧ (∀ p r a b, st = .call p r a b → p < bo.length) ∧ (∀ w, st = .fin w → w < 2 ∧ EndOk s.begun s.frs) ∧ (∀ cs b, st = .keep cs b → cs.length ≤ 1000) ∧
  (∀ i, excC c bits bo s st = .error i → ErrAt CN Hb i E) ∧ ∀ s' Hd' H', excC c bits bo s st = .ok s' → Ex Hd Hd' → Rep K CE CF Hd' H' x c bits bo s' → Q .non H'
theorem a_save {te : TE} {xs : List V} {w : Str} (h : EvL te σ H xs) (Q : List V → Hp → Prop) (q : ∀ L H1, H L = none → Ex H H1 → H1 L = some (.lst xs) → ∀ T, H1 T = none → Q [.ref T] (L2.upd H1 T (.tup [.str w, .ref L]))) : tCons (tTup (tCons (tC (.str w)) (tCons te tNil))) tNil σ H Q :=
  h H (Ex.refl _) _ fun L H1 n e hL => ⟨by show 2 ≤ sizeLine; decide, fun T nT => q L H1 n e hL T nT⟩
theorem RepD.castS {s' : Cf} (r : RepD K CE CF Hd H x c bits bo s dx F B S bt bv fs bs svs) (e : s = s') : RepD K CE CF Hd H x c bits bo s' dx F B S bt bv fs bs svs := e ▸ r
theorem nat_ints (l : List Nat) : l.map nV = (l.map (Nat.cast : Nat → Int)).map V.int := by rw [List.map_map]; rfl
theorem dpa_nats (l : List Nat) : DpAll K H (l.map nV) ((l.map (Nat.cast : Nat → Int)).map PyData.int) := by rw [nat_ints]; exact dpa_ints _
theorem ok_execute {f fE fC fB fO fG : Addr} {fd fdE fdC fdB fdO fdG : FuncData} {k : Nat} (Fm : Fun K "_execute" "Execution._execute" sExecution__execute f fd) (X : ExC K CE CF) (z_len : mg "len" = none)
    (FE : FnOk P w K mg base CX0 5 fE fdE ["self", "way"] (spEnd K CE CF)) (mE : Meth K CE "_end" fE) (bE : Binds K fdE ["self", "way"] [])
    (FC : FnOk P w K mg base CX0 1 fC fdC ["self", "place", "row"] (spCommand K CE CF)) (mC : Meth K CE "_command" fC) (bC : Binds K fdC ["self", "place", "row"] [])
    (FO : FnOk P w K mg base CX0 4 fO fdO ["self", "word", "block", "told"] (spOpen K CE CF)) (mO : Meth K CE "_open" fO) (bO : Binds K fdO ["self", "word", "block", "told"] [])
    (FG : FnOk P w K mg base (L2.CX P w) 18 fG fdG ["self", "procedure", "blocks"] (spBegin K CE CF CN)) (mG : Meth K CE "_begin" fG) (bG : Binds K fdG ["self", "procedure", "blocks"] [])
    (FB : FnOk P w K mg base (L2.CX P w) 18 fB fdB ["self"] (spBitM K CE CF CN)) (mB : Meth K CE "_bit" fB) (bB : Binds K fdB ["self"] []) (hk : 18 ≤ k) :
    FnOk P w K mg base (L2.CX P w) (k + 1) f fd ["self", "statement"] (spExec K CE CF CN) := by
  have sc := scExecution__execute
  refine Fm.okX sc (fun vs H Q E h => ?_) (fun cdv A outer s H vs Q E hr h => ?_)
  · obtain ⟨x, c, bits, bo, s, Hd, Hb, u, st, rfl, _⟩ := h
    rfl
  · obtain ⟨x, c, bits, bo, s, Hd, Hb, u, st, rfl, hu, ⟨dx, F, B, S, bt, bv, fs, bs, svs, r⟩, eb, hle, hln, hbit, hbl, hbn, hL, hcall, hfin, hkeep, qe, qo⟩ := h
    refine ⟨_, (pss_cons (ps_set (i := 2) sc.nd rfl (by first | exact Or.inl rfl | exact Or.inr rfl) (pe_ix ix_tup (pv 1) pe_int (fun _ _ => rfl)))
      (pss_one (ps_if (pt_cmpR op_eq (pv 2) pe_str (nomark _))
      (pss_one (ps_expr (pe_meth (pv 0) X.cE mC FC (hr.mono (by omega)) bC .nil pass0 (pa_cons (pe_op op_add (pe_ix ix_tup (pv 1) pe_int (fun _ _ => rfl)) pe_int) (pa_cons (pe_ix ix_tup (pv 1) pe_int (fun _ _ => rfl)) pa_nil)))))
      (pss_one (ps_if (pt_cmpR op_eq (pv 2) pe_str (nomark _))
      (pss_one (ps_expr (pe_meth (pv 0) X.cE mC FC (hr.mono (by omega)) bC .nil pass0 (pa_cons (pe_fld (pv 0) rfl) (pa_cons (pe_ix ix_tup (pv 1) pe_int (fun _ _ => rfl)) pa_nil)))))
      (pss_one (ps_if (pt_cmpR op_eq (pv 2) pe_str (nomark _))
      (pss_cons (ps_expr (pe_bm PySem.F.plainAttrs_list PySem.F.slot_list_append PySem.F.type_list_append mt_append (pe_fld (pv 0) rfl) (pa_cons (pe_tup (pa_cons pe_str (pa_cons (pe_lst (pa_starK (K := K) rfl (pe_lc (own := [("cell", 3)]) (by rfl) sc.nd (pi_list (pe_ix ix_tup (pv 1) pe_int (fun _ _ => rfl))) (blkOk_by (own := [("cell", 3)]) (N := ["self", "statement", "word", "cell"]) (sc := defScope sExecution__execute) (by decide +kernel)) (fun _ _ _ _ _ => (pg_name (i := 3) sc.nd rfl (by first | exact Or.inl rfl | exact Or.inr rfl))) (fun _ _ _ _ _ => pts_nil) (fun _ _ _ _ _ => (pe_op op_add (pv 3) pe_int))) (pa_cons (pe_fld (pv 0) rfl) pa_nil))) pa_nil))) pa_nil)))
      (pss_one (ps_expr (pe_meth (pv 0) X.cE mO FO (hr.mono (by omega)) bO .nil pass0 (pa_cons pe_str (pa_cons (pe_ix ix_tup (pv 1) pe_int (fun _ _ => rfl)) (pa_cons pe_non pa_nil)))))))
      (pss_one (ps_if (pt_cmpR op_eq (pv 2) pe_str (nomark _))
      (pss_one (ps_expr (pe_meth (pv 0) X.cE mO FO (hr.mono (by omega)) bO .nil pass0 (pa_cons pe_str (pa_cons (pe_ix ix_tup (pv 1) (pe_op op_add pe_int (pe_meth0 (pv 0) X.cE mB FB (hr.mono (by omega)) bB .nil (passes_call (takes_of rfl rfl rfl rfl) fun _ _ _ _ h => h))) (fun _ _ => rfl)) (pa_cons pe_non pa_nil))))))
      (pss_one (ps_if (pt_cmpR op_eq (pv 2) pe_str (nomark _))
      (pss_cons (ps_expr (pe_meth (pv 0) X.cE mO FO (hr.mono (by omega)) bO .nil pass0 (pa_cons pe_str (pa_cons (pe_ix ix_tup (pv 1) pe_int (fun _ _ => rfl)) (pa_cons pe_non pa_nil)))))
      (pss_one (ps_fld (pe_ix ix_list (pe_fld (pv 0) rfl) (pe_un un_neg pe_int) (fun _ _ => rfl)) (pe_callB call_len_seq (by rfl) z_len (by decide +kernel) (pa_cons (pe_ix ix_tup (pv 1) pe_int (fun _ _ => rfl)) pa_nil)) rfl)))
      (pss_one (ps_if (pt_cmpR op_eq (pv 2) pe_str (nomark _))
      (pss_cons (ps_expr (pe_bm PySem.F.plainAttrs_list PySem.F.slot_list_append PySem.F.type_list_append mt_append (pe_fld (pv 0) rfl) (pa_cons (pe_tup (pa_cons pe_str (pa_cons (pe_lst (pa_cons (pe_fld (pv 0) rfl) pa_nil)) pa_nil))) pa_nil)))
      (pss_cons (ps_expr (pe_bm PySem.F.plainAttrs_list PySem.F.slot_list_append PySem.F.type_list_append mt_append (pe_fld (pv 0) rfl) (pa_cons (pe_tup (pa_cons pe_str (pa_cons (pe_fld (pv 0) rfl) (pa_cons (pe_ix ix_tup (pv 1) pe_int (fun _ _ => rfl)) pa_nil)))) pa_nil)))
      (pss_one (ps_expr (pe_meth (pv 0) X.cE mG FG (hr.mono (by omega)) bG .nil (passes_call (takes_of rfl rfl rfl rfl) fun _ _ _ _ h => h) (pa_cons (pe_ix ix_tup (pv 1) pe_int (fun _ _ => rfl)) (pa_cons (pe_ix ix_tup (pv 1) pe_int (fun _ _ => rfl)) pa_nil)))))))
      (pss_one (ps_expr (pe_meth (pv 0) X.cE mE FE (hr.mono (by omega)) bE .nil pass0 (pa_cons (pe_ix ix_tup (pv 1) pe_int (fun _ _ => rfl)) pa_nil))))))))))))))))), ?_⟩
    obtain ⟨t, is, rfl, ht, hit⟩ := stm_items hu
    have lsv : svs.length = s.steps.length := by rw [dpa_len r.hst, List.length_map]
    have tH : ∀ {H1 : Hp}, Ex H H1 → SqT K H1 t (.str (hdW st) :: is) := fun e => ex_t (r.own.ex.trans e) ht
    have t0 := tH (Ex.refl _)
    cases st with
    | set k r0 =>
      obtain ⟨a, rfl, ha⟩ := hit
      replace t0 : SqT K H t (.str "set" :: _) := t0
      refine q_asg (ev_at (j := 0) (ev_var rfl) t0 rfl) fun H1 e1 => ?_
      refine s_if (b := true) (et_is (et_test (ev_op (ev_var rfl) ev_c (rv_eq rfl))) (by decide +kernel)) (fun _ H2 e2 => ?_) (fun h => (nomatch h))
      have e12 := e1.trans e2
      have r2 := r.mono e12
      refine ⟨.ref x, rfl, x, dx, _, rfl, r2.hx, rfl, ?_⟩
      refine ⟨.ref t, rfl, t, _, 1, .int (k : Int), rfl, rfl, tH e12, atI_nat (j := 1) rfl, (k : Int), 1, rfl, rfl, .ref t, rfl, t, _, 2, .ref a, rfl, rfl, tH e12, atI_nat (j := 2) rfl, ?_⟩
      exact ⟨x, c, bits, bo, s, Hd, k + 1, a, r0, rfl, ⟨dx, F, B, S, bt, bv, fs, bs, svs, r2⟩, by omega, ha, fun Hd3 H3 eg3 r3 => qo _ Hd3 H3 rfl eg3 r3⟩
    | carry r0 =>
      obtain ⟨a, rfl, ha⟩ := hit
      replace t0 : SqT K H t (.str "carry" :: _) := t0
      refine q_asg (ev_at (j := 0) (ev_var rfl) t0 rfl) fun H1 e1 => ?_
      refine s_if (b := false) (et_is (et_test (ev_op (ev_var rfl) ev_c (rv_eq rfl))) (by decide +kernel)) (fun h => (nomatch h)) (fun _ H2 e2 => ?_)
      refine s_if (b := true) (et_is (et_test (ev_op (ev_var rfl) ev_c (rv_eq rfl))) (by decide +kernel)) (fun _ H3 e3 => ?_) (fun h => (nomatch h))
      have e12 := (e1.trans e2).trans e3
      have r2 := r.mono e12
      refine ⟨.ref x, rfl, x, dx, _, rfl, r2.hx, rfl, ?_⟩
      refine ⟨.ref x, rfl, x, CE, dx, _, .int ((c + 1 : Nat) : Int), rfl, r2.hx, X.cE, X.n_last, rfl, .ref t, rfl, t, _, 1, .ref a, rfl, rfl, tH e12, atI_nat (j := 1) rfl, ?_⟩
      exact ⟨x, c, bits, bo, s, Hd, c + 1, a, r0, rfl, ⟨dx, F, B, S, bt, bv, fs, bs, svs, r2⟩, by omega, ha, fun Hd3 H3 eg3 r3 => qo _ Hd3 H3 rfl eg3 r3⟩
    | keep cs b =>
      obtain ⟨a, vb, rfl, ha, hvb⟩ := hit
      have hcs := hkeep cs b rfl
      replace t0 : SqT K H t (.str "keep" :: _) := t0
      refine q_asg (ev_at (j := 0) (ev_var rfl) t0 rfl) fun H1 e1 => ?_
      refine s_if (b := false) (et_is (et_test (ev_op (ev_var rfl) ev_c (rv_eq rfl))) (by decide +kernel)) (fun h => (nomatch h)) (fun _ H2 e2 => ?_)
      refine s_if (b := false) (et_is (et_test (ev_op (ev_var rfl) ev_c (rv_eq rfl))) (by decide +kernel)) (fun h => (nomatch h)) (fun _ H3 e3 => ?_)
      refine s_if (b := true) (et_is (et_test (ev_op (ev_var rfl) ev_c (rv_eq rfl))) (by decide +kernel)) (fun _ H4 e4 => ?_) (fun h => (nomatch h))
      have e14 := ((e1.trans e2).trans e3).trans e4
      have r4 := r.mono e14
      refine ⟨.ref x, rfl, x, CE, dx, _, .ref S, rfl, r4.hx, X.cE, X.n_steps, rfl, .inl ⟨rfl, _, sq_of r4.hS⟩, ?_⟩
      have hlist : EvL (tLst (StX.tStar K (tLc (iList K (tOp (rIxT K) (tVar 1) (tC (.int 1)))) (gName 3) tYes (tOp (rI0 fun i j => .int (i + j)) (tVar 3) (tC (.int 1))) [3]) (tCons (tFld K (tVar 0) "_last") tNil))) [some (.ref x), some (.ref t), some (.str "keep"), none] H4 ((cs.map (· + 1)).map nV ++ [.int ((c + 1 : Nat) : Int)]) := by
        refine el_lst (ea_starN (el_map (ev_at (j := 1) (ev_var rfl) (tH e14) rfl) (ex_l (r.own.ex.trans e14) ha) (by rw [List.length_map, List.length_map, List.length_map, List.length_map]) (by rw [List.length_map, List.length_map]; omega) (fun _ => rfl) (fun i y z H5 e5 hy hz => ?_)) (ea_cons (ev_exf X.cE X.n_last (ev_var rfl) r4.hx rfl) ea_nil)) (by rw [List.length_append, List.length_map, List.length_map, List.length_singleton]; omega)
        rw [List.map_map, List.getElem?_map, Option.map_eq_some_iff] at hy
        obtain ⟨n, hn, rfl⟩ := hy
        rw [List.map_map, List.getElem?_map, hn] at hz
        cases hz
        refine ev_is (ev_op (ev_var rfl) ev_c rv_I0) ?_
        show V.int ((n : Int) + 1) = V.int ((n + 1 : Nat) : Int)
        exact congrArg V.int (by omega)
      refine a_save hlist _ fun L H5 nL e5 hLl T nT => ?_
      obtain ⟨o6, eg6⟩ := r4.own.grow e5 nL hLl
      have r6 := r4.up eg6 o6
      have eT := Ex.new (o := .tup [.str "save", .ref L]) nT
      obtain ⟨o7, eg7⟩ := r6.own.grow eT nT upd_same
      have r7 := r6.up eg7 o7
      refine ⟨S, svs, _, rfl, rfl, r7.hS, sz_lt (by omega), ?_⟩
      have r8 := r7.step (v := .ref T) (t := .save (cs.map (· + 1) ++ [c + 1])) (.tup (st_of upd_same) (.cons (.str _) (.cons (.lst (xs := (cs.map (· + 1) ++ [c + 1]).map nV) (sq_of (eg7 _ _ (by rw [upd_same, List.map_append]; rfl))) (dpa_nats _)) .nil)))
      generalize upd (upd H5 T (.tup [.str "save", .ref L])) S (.lst (svs ++ [.ref T])) = H8 at r8 ⊢
      refine ⟨.ref x, rfl, x, dx, _, rfl, r8.hx, rfl, ?_⟩
      refine ⟨.ref t, rfl, t, _, 2, vb, rfl, rfl, ex_t ((eg6.trans eg7).trans r8.own.ex) ht, atI_nat (j := 2) rfl, ?_⟩
      refine ⟨x, c, bits, bo, _, _, ⟨.keep, b, 0, 0, none⟩, vb, .non, rfl, ⟨dx, F, B, S, bt, bv, fs, bs, _, r8⟩, by show s.frs.length ≤ 90000; omega, rfl, fun a dx => ⟨dp_ex (eg6.trans eg7) _ _ hvb, fun z => (nomatch z)⟩, fun H9 r9 => qo _ _ H9 rfl (eg6.trans eg7) r9⟩
    | either ba bb =>
      obtain ⟨va, vb, rfl, hva, hvb⟩ := hit
      replace t0 : SqT K H t (.str "either" :: _) := t0
      refine q_asg (ev_at (j := 0) (ev_var rfl) t0 rfl) fun H1 e1 => ?_
      refine s_if (b := false) (et_is (et_test (ev_op (ev_var rfl) ev_c (rv_eq rfl))) (by decide +kernel)) (fun h => (nomatch h)) (fun _ H2 e2 => ?_)
      refine s_if (b := false) (et_is (et_test (ev_op (ev_var rfl) ev_c (rv_eq rfl))) (by decide +kernel)) (fun h => (nomatch h)) (fun _ H3 e3 => ?_)
      refine s_if (b := false) (et_is (et_test (ev_op (ev_var rfl) ev_c (rv_eq rfl))) (by decide +kernel)) (fun h => (nomatch h)) (fun _ H4 e4 => ?_)
      refine s_if (b := true) (et_is (et_test (ev_op (ev_var rfl) ev_c (rv_eq rfl))) (by decide +kernel)) (fun _ H5 e5 => ?_) (fun h => (nomatch h))
      have e15 := (((e1.trans e2).trans e3).trans e4).trans e5
      have r5 := r.mono e15
      refine ⟨.ref x, rfl, x, dx, _, rfl, r5.hx, rfl, ?_⟩
      refine ⟨.ref t, rfl, .ref x, rfl, x, dx, _, rfl, r5.hx, rfl, ?_⟩
      refine ⟨x, c, bits, bo, s, Hd, Hb, dx, F, B, S, bt, bv, fs, bs, svs, rfl, r5, eb, hle, hln, fun i hi => qe i (by rw [excC, hi]), fun n s' H6 hn r6 => ?_⟩
      have hn1 : n ≤ 1 ∧ s'.frs = s.frs := by
        rw [bitC] at hn
        split at hn
        · cases hn
        · rename_i hne
          cases hn
          have hlt : s.taken < bits.length := by omega
          refine ⟨hbit _ ?_, rfl⟩
          rw [List.getD_eq_getElem?_getD, List.getElem?_eq_getElem hlt]
          exact List.getElem_mem hlt
      refine ⟨1, (n : Int), rfl, rfl, t, _, 1 + (n : Int), if n = 0 then va else vb, rfl, rfl, ex_t r6.own.ex ht, ?_, ?_⟩
      · rcases (show n = 0 ∨ n = 1 by omega) with rfl | rfl <;> rfl
      refine ⟨x, c, bits, bo, s', Hd, ⟨.block, if n = 0 then ba else bb, 0, 0, none⟩, if n = 0 then va else vb, .non, rfl, ⟨dx, F, B, S, bt, bv, fs, bs, svs, r6⟩, by rw [hn1.2]; omega, rfl, fun a dx => ⟨?_, fun z => (nomatch z)⟩, fun H7 r7 => qo _ Hd H7 (by rw [excC, hn]) (Ex.refl _) r7⟩
      show Dp K _ (if n = 0 then va else vb) (.list (toDs (if n = 0 then ba else bb)))
      split
      · exact hva
      · exact hvb
    | again b =>
      obtain ⟨vb, rfl, hvb⟩ := hit
      replace t0 : SqT K H t (.str "again" :: _) := t0
      refine q_asg (ev_at (j := 0) (ev_var rfl) t0 rfl) fun H1 e1 => ?_
      refine s_if (b := false) (et_is (et_test (ev_op (ev_var rfl) ev_c (rv_eq rfl))) (by decide +kernel)) (fun h => (nomatch h)) (fun _ H2 e2 => ?_)
      refine s_if (b := false) (et_is (et_test (ev_op (ev_var rfl) ev_c (rv_eq rfl))) (by decide +kernel)) (fun h => (nomatch h)) (fun _ H3 e3 => ?_)
      refine s_if (b := false) (et_is (et_test (ev_op (ev_var rfl) ev_c (rv_eq rfl))) (by decide +kernel)) (fun h => (nomatch h)) (fun _ H4 e4 => ?_)
      refine s_if (b := false) (et_is (et_test (ev_op (ev_var rfl) ev_c (rv_eq rfl))) (by decide +kernel)) (fun h => (nomatch h)) (fun _ H5 e5 => ?_)
      refine s_if (b := true) (et_is (et_test (ev_op (ev_var rfl) ev_c (rv_eq rfl))) (by decide +kernel)) (fun _ H6 e6 => ?_) (fun h => (nomatch h))
      have e16 := ((((e1.trans e2).trans e3).trans e4).trans e5).trans e6
      have r6 := r.mono e16
      refine ⟨.ref x, rfl, x, dx, _, rfl, r6.hx, rfl, ?_⟩
      refine ⟨.ref t, rfl, t, _, 1, vb, rfl, rfl, tH e16, atI_nat (j := 1) rfl, ?_⟩
      refine ⟨x, c, bits, bo, s, Hd, ⟨.again, b, 0, 0, none⟩, vb, .non, rfl, ⟨dx, F, B, S, bt, bv, fs, bs, svs, r6⟩, by omega, rfl, fun a dx => ⟨hvb, fun z => (nomatch z)⟩, fun H7 r7 => ?_⟩
      obtain ⟨dx2, F2, B2, S2, bt2, bv2, fs2, bs2, svs2, r7⟩ := r7
      have hm := r7.hfs
      cases fs2 with
      | nil => cases hm
      | cons v fs2 =>
        have hv := r7.hf (List.mem_cons_self ..)
        have hvf : v.f = ⟨.again, b, 0, 0, none⟩ := (List.cons_eq_cons.mp hm).1
        obtain ⟨ba, bx, hbv, hba, hbx⟩ := dp_lst hvb
        subst hbv
        have lbx : bx.length = b.length := by rw [dpa_len hbx, toDs_len]
        refine ⟨.ref t, rfl, t, _, 1, .ref ba, rfl, rfl, ex_t r7.own.ex ht, atI_nat (j := 1) rfl, ba, bx, rfl, .inl (ex_l r7.own.ex hba), ?_⟩
        refine ⟨.ref x, rfl, x, CE, dx2, _, .ref F2, rfl, r7.hx, X.cE, X.n_frames, rfl, 1, rfl, F2, _, -1, .ref v.a, rfl, rfl, sq_of r7.hF, ?_, v.a, CF, v.dx, _, rfl, hv, X.cF, X.n_at, by show 4 < 1000; decide, ?_⟩
        · rw [List.reverse_cons, List.map_append]
          exact atI_last _ _
        · dsimp only
          rw [putF_at, lbx]
          have r8 := r7.setAt (f := ⟨.again, b, 0, 0, none⟩) (rs := s.frs) rfl b.length
          exact qo _ Hd _ rfl (Ex.refl _) ⟨dx2, F2, B2, S2, bt2, bv2, _, bs2, svs2, r8⟩
    | call p r0 ba bb =>
      obtain ⟨ra, Bl, va, vb, rfl, hra, hBl, hva, hvb⟩ := hit
      replace t0 : SqT K H t (.str "call" :: _) := t0
      refine q_asg (ev_at (j := 0) (ev_var rfl) t0 rfl) fun H1 e1 => ?_
      refine s_if (b := false) (et_is (et_test (ev_op (ev_var rfl) ev_c (rv_eq rfl))) (by decide +kernel)) (fun h => (nomatch h)) (fun _ H2 e2 => ?_)
      refine s_if (b := false) (et_is (et_test (ev_op (ev_var rfl) ev_c (rv_eq rfl))) (by decide +kernel)) (fun h => (nomatch h)) (fun _ H3 e3 => ?_)
      refine s_if (b := false) (et_is (et_test (ev_op (ev_var rfl) ev_c (rv_eq rfl))) (by decide +kernel)) (fun h => (nomatch h)) (fun _ H4 e4 => ?_)
      refine s_if (b := false) (et_is (et_test (ev_op (ev_var rfl) ev_c (rv_eq rfl))) (by decide +kernel)) (fun h => (nomatch h)) (fun _ H5 e5 => ?_)
      refine s_if (b := false) (et_is (et_test (ev_op (ev_var rfl) ev_c (rv_eq rfl))) (by decide +kernel)) (fun h => (nomatch h)) (fun _ H6 e6 => ?_)
      refine s_if (b := true) (et_is (et_test (ev_op (ev_var rfl) ev_c (rv_eq rfl))) (by decide +kernel)) (fun _ H7 e7 => ?_) (fun h => (nomatch h))
      have e17 := (((((e1.trans e2).trans e3).trans e4).trans e5).trans e6).trans e7
      have r7 := r.mono e17
      -- self.steps.append(('save', [self._last]))
      refine ⟨.ref x, rfl, x, CE, dx, _, .ref S, rfl, r7.hx, X.cE, X.n_steps, rfl, .inl ⟨rfl, _, sq_of r7.hS⟩, ?_⟩
      refine ⟨.ref x, rfl, x, CE, dx, _, .int ((c + 1 : Nat) : Int), rfl, r7.hx, X.cE, X.n_last, rfl, by show 1 ≤ sizeLine; decide, fun L nL => ⟨by show 2 ≤ sizeLine; decide, fun T nT => ?_⟩⟩
      obtain ⟨o8, eg8⟩ := r7.own.grow (Ex.new (o := .lst [.int ((c + 1 : Nat) : Int)]) nL) nL upd_same
      have r8 := r7.up eg8 o8
      obtain ⟨o9, eg9⟩ := r8.own.grow (Ex.new (o := .tup [.str "save", .ref L]) nT) nT upd_same
      have r9 := r8.up eg9 o9
      refine ⟨S, svs, _, rfl, rfl, r9.hS, sz_lt (by omega), ?_⟩
      have ra1 := r9.step (v := .ref T) (t := .save [c + 1]) (.tup (st_of upd_same) (.cons (.str _) (.cons (.lst (xs := [.int ((c + 1 : Nat) : Int)]) (sq_of (eg9 _ _ upd_same)) (.cons (.int _) .nil)) .nil)))
      generalize upd (upd (upd H7 L (.lst [.int ((c + 1 : Nat) : Int)])) T (.tup [.str "save", .ref L])) S (.lst (svs ++ [.ref T])) = H10 at ra1 ⊢
      have egA := eg8.trans eg9
      -- self.steps.append(('put', self._last, statement[2]))
      refine ⟨.ref x, rfl, x, CE, dx, _, .ref S, rfl, ra1.hx, X.cE, X.n_steps, rfl, .inl ⟨rfl, _, sq_of ra1.hS⟩, ?_⟩
      refine ⟨.ref x, rfl, x, CE, dx, _, .int ((c + 1 : Nat) : Int), rfl, ra1.hx, X.cE, X.n_last, rfl, .ref t, rfl, t, _, 2, .ref ra, rfl, rfl, ex_t (egA.trans ra1.own.ex) ht, atI_nat (j := 2) rfl, by show 3 ≤ sizeLine; decide, fun T2 nT2 => ?_⟩
      obtain ⟨oB, egB⟩ := ra1.own.grow (Ex.new (o := .tup [.str "put", .int ((c + 1 : Nat) : Int), .ref ra]) nT2) nT2 upd_same
      have rB := ra1.up egB oB
      refine ⟨S, svs ++ [.ref T], _, rfl, rfl, rB.hS, sz_lt (by rw [List.length_append, List.length_singleton]; omega), ?_⟩
      have egC := egA.trans egB
      have rC := rB.step (v := .ref T2) (t := .put (c + 1) r0) (.tup (st_of upd_same) (.cons (.str _) (.cons (.int _) (.cons (.lst (ex_l egC hra) (dpa_ints r0)) .nil))))
      generalize upd (upd H10 T2 (.tup [.str "put", .int ((c + 1 : Nat) : Int), .ref ra])) S (.lst (svs ++ [.ref T] ++ [.ref T2])) = H11 at rC ⊢
      refine ⟨.ref x, rfl, x, dx, _, rfl, rC.hx, rfl, ?_⟩
      refine ⟨.ref t, rfl, t, _, 1, .int (p : Int), rfl, rfl, ex_t (egC.trans rC.own.ex) ht, atI_nat (j := 1) rfl, .ref t, rfl, t, _, 3, .ref Bl, rfl, rfl, ex_t (egC.trans rC.own.ex) ht, atI_nat (j := 3) rfl, ?_⟩
      have hst : ({ s with steps := s.steps ++ [.save [c + 1]] ++ [.put (c + 1) r0] } : Cf) = { s with steps := s.steps ++ [.save [c + 1], .put (c + 1) r0] } := by rw [List.append_assoc]; rfl
      have rC2 := rC.castS hst
      refine ⟨x, c, bits, bo, { s with steps := s.steps ++ [.save [c + 1], .put (c + 1) r0] }, _, Hb, p, .ref Bl, some (ba, bb), rfl, ⟨dx, F, B, S, bt, bv, fs, bs, _, rC2⟩, eb.trans egC, hcall p r0 ba bb rfl, hbl, by show s.frs.length ≤ 90000; omega, hbn, fun a b z => ?_, fun i hi => qe i hi, fun s' Hd' H' hs' eg' r' => qo s' Hd' H' hs' (egC.trans eg') r'⟩
      cases z
      exact .lst (ex_l egC hBl) (.cons (dp_ex egC _ _ hva) (.cons (dp_ex egC _ _ hvb) .nil))
    | fin w =>
      obtain rfl := hit
      obtain ⟨hw2, hE⟩ := hfin w rfl
      replace t0 : SqT K H t (.str "end" :: _) := t0
      refine q_asg (ev_at (j := 0) (ev_var rfl) t0 rfl) fun H1 e1 => ?_
      refine s_if (b := false) (et_is (et_test (ev_op (ev_var rfl) ev_c (rv_eq rfl))) (by decide +kernel)) (fun h => (nomatch h)) (fun _ H2 e2 => ?_)
      refine s_if (b := false) (et_is (et_test (ev_op (ev_var rfl) ev_c (rv_eq rfl))) (by decide +kernel)) (fun h => (nomatch h)) (fun _ H3 e3 => ?_)
      refine s_if (b := false) (et_is (et_test (ev_op (ev_var rfl) ev_c (rv_eq rfl))) (by decide +kernel)) (fun h => (nomatch h)) (fun _ H4 e4 => ?_)
      refine s_if (b := false) (et_is (et_test (ev_op (ev_var rfl) ev_c (rv_eq rfl))) (by decide +kernel)) (fun h => (nomatch h)) (fun _ H5 e5 => ?_)
      refine s_if (b := false) (et_is (et_test (ev_op (ev_var rfl) ev_c (rv_eq rfl))) (by decide +kernel)) (fun h => (nomatch h)) (fun _ H6 e6 => ?_)
      refine s_if (b := false) (et_is (et_test (ev_op (ev_var rfl) ev_c (rv_eq rfl))) (by decide +kernel)) (fun h => (nomatch h)) (fun _ H7 e7 => ?_)
      have e17 := (((((e1.trans e2).trans e3).trans e4).trans e5).trans e6).trans e7
      have r7 := r.mono e17
      refine ⟨.ref x, rfl, x, dx, _, rfl, r7.hx, rfl, ?_⟩
      refine ⟨.ref t, rfl, t, _, 1, .int (w : Int), rfl, rfl, tH e17, atI_nat (j := 1) rfl, ?_⟩
      exact ⟨x, c, bits, bo, s, Hd, w, rfl, ⟨dx, F, B, S, bt, bv, fs, bs, svs, r7⟩, hw2, hE, by omega, fun Hd3 H3 eg3 r3 => qo _ Hd3 H3 rfl eg3 r3⟩
end
/-! ### executions stay well formed -/
def frOkM (c m : Nat) (f : Fr) : Prop := (∃ lv, okL c m f.blk lv) ∧ (f.w = .body → f.proc < m) ∧ (∀ a b, f.nxt = some (a, b) → (∃ lv, okL c m a lv) ∧ ∃ lv, okL c m b lv) ∧ f.pos ≤ f.blk.length
def stkOk (c m : Nat) : List Fr → Prop
  | [] => True
  | f :: r => frOkM c m f ∧ (r = [] → f.w = .body) ∧ (f.w = .body → r ≠ [] → f.nxt.isSome) ∧ stkOk c m r
def cntP (p : Nat) : List Fr → Nat
  | [] => 0
  | f :: r => (if f.w = .body ∧ f.proc = p then 1 else 0) + cntP p r
structure StOk (c : Nat) (bits : List Nat) (m : Nat) (s : Cf) : Prop where
  tk : s.taken ≤ bits.length
  bl : s.begun.length = m
  stk : stkOk c m s.frs
  cnt : ∀ p, (s.begun.getD p []).length = cntP p s.frs
theorem cntP_le (p : Nat) : ∀ l : List Fr, cntP p l ≤ l.length
  | [] => Nat.le_refl _
  | f :: r => by
    rw [cntP, List.length_cons]
    have := cntP_le p r
    split <;> omega
theorem StOk.begun_len {c m : Nat} {bits : List Nat} {s : Cf} (h : StOk c bits m s) : ∀ l ∈ s.begun, l.length ≤ s.frs.length := fun l hl => by
  obtain ⟨p, hp, rfl⟩ := List.getElem_of_mem hl
  have := h.cnt p
  rw [List.getD_eq_getElem?_getD, List.getElem?_eq_getElem hp] at this
  have h2 := cntP_le p s.frs
  rw [← this] at h2
  exact h2
theorem endOk_of {c m : Nat} {begun : List (List Nat)} (hl : begun.length = m) : ∀ {l : List Fr}, stkOk c m l → l ≠ [] → (∀ p, cntP p l ≤ (begun.getD p []).length) → EndOk begun l
  | [], _, h, _ => absurd rfl h
  | f :: r, h, _, hc => by
    rw [stkOk] at h
    rw [EndOk]
    by_cases hb : f.w = .body
    · rw [if_pos hb]
      refine ⟨by rw [hl]; exact h.1.2.1 hb, fun z => ?_, h.2.2.1 hb⟩
      have := hc f.proc
      rw [z, cntP, if_pos ⟨hb, rfl⟩, List.length_nil] at this
      omega
    · rw [if_neg hb]
      refine endOk_of hl h.2.2.2 (fun z => hb (h.2.1 z)) fun p => ?_
      have := hc p
      rw [cntP, if_neg fun z => hb z.1] at this
      omega
theorem StOk.endOk {c m : Nat} {bits : List Nat} {s : Cf} (h : StOk c bits m s) (hs : s.frs ≠ []) : EndOk s.begun s.frs := endOk_of h.bl h.stk hs fun p => by rw [h.cnt p]; exact Nat.le_refl _
theorem getD_set {α : Type} (l : List α) (i p : Nat) (a d : α) (hi : i < l.length) : (l.set i a).getD p d = if p = i then a else l.getD p d := by
  rw [List.getD_eq_getElem?_getD, List.getD_eq_getElem?_getD, List.getElem?_set]
  by_cases h : i = p
  · subst h
    rw [if_pos rfl, if_pos hi, if_pos rfl]; rfl
  · rw [if_neg h, if_neg fun z => h z.symm]
theorem nxB_ok {c m way : Nat} {f : Fr} (h : frOkM c m f) : ∃ lv, okL c m (nxB way f) lv := by
  unfold nxB
  cases hn : f.nxt with
  | none => exact ⟨0, by rw [okL]; trivial⟩
  | some ab =>
    obtain ⟨a, b⟩ := ab
    have := h.2.2.1 a b hn
    dsimp only
    split
    · exact this.1
    · exact this.2
theorem end_ok {c m way : Nat} {bits : List Nat} {s : Cf} (htk : s.taken ≤ bits.length) (hbl : s.begun.length = m) : ∀ (l : List Fr) (st : List Stp), stkOk c m l → l ≠ [] → (∀ p, (s.begun.getD p []).length = cntP p l) →
    StOk c bits m (endL way s l st) ∧ (endL way s l st).steps.length + (endL way s l st).frs.length ≤ st.length + l.length + 1
  | [], _, _, h, _ => absurd rfl h
  | f :: r, st, h, _, hc => by
    rw [stkOk] at h
    rw [endL]
    by_cases hb : f.w = .body
    · rw [if_pos hb]
      have hp := h.1.2.1 hb
      have cnt : ∀ p, ((s.begun.set f.proc (s.begun.getD f.proc []).dropLast).getD p []).length = cntP p r := fun p => by
        rw [getD_set _ _ _ _ _ (by omega)]
        have h1 := hc p
        rw [cntP] at h1
        by_cases z : p = f.proc
        · subst z
          rw [if_pos rfl, List.length_dropLast]
          rw [if_pos ⟨hb, rfl⟩] at h1
          omega
        · rw [if_neg z]
          rw [if_neg fun q => z q.2.symm] at h1
          omega
      by_cases hr : r = []
      · rw [if_pos hr]
        subst hr
        refine ⟨⟨htk, by show (List.set _ _ _).length = m; rw [List.length_set]; exact hbl, by show stkOk c m []; rw [stkOk]; trivial, cnt⟩, ?_⟩
        show st.length + 0 ≤ _
        omega
      · rw [if_neg hr]
        refine ⟨⟨htk, by show (List.set _ _ _).length = m; rw [List.length_set]; exact hbl, ?_, fun p => ?_⟩, ?_⟩
        · show stkOk c m (_ :: r)
          rw [stkOk]
          exact ⟨⟨nxB_ok h.1, fun z => (nomatch z), fun a b z => (nomatch z), Nat.zero_le _⟩, fun z => absurd z hr, fun z => (nomatch z), h.2.2.2⟩
        · show _ = cntP p (_ :: r)
          rw [cntP, if_neg fun z => (nomatch z.1), Nat.zero_add]
          exact cnt p
        · show (st ++ [Stp.back]).length + (_ :: r).length ≤ _
          simp only [List.length_append, List.length_cons, List.length_nil]
          omega
    · rw [if_neg hb]
      have hr : r ≠ [] := fun z => hb (h.2.1 z)
      obtain ⟨h1, h2⟩ := end_ok htk hbl r (clsS f st) h.2.2.2 hr fun p => by
        rw [hc p, cntP, if_neg fun z => hb z.1, Nat.zero_add]
      refine ⟨h1, Nat.le_trans h2 ?_⟩
      have := clsS_len f st
      rw [List.length_cons]
      omega
section
variable {c m : Nat} {bits : List Nat} {bo : List (List Stm)} {s s' : Cf}
def sz (s : Cf) : Nat := s.steps.length + s.frs.length
theorem opn_ok {f : Fr} (h : StOk c bits m s) (hs : s.frs ≠ []) (hf : frOkM c m f) (hb : f.w ≠ .body) : StOk c bits m (opnC s f) := by
  refine ⟨h.tk, h.bl, ?_, fun p => ?_⟩
  · show stkOk c m (f :: s.frs)
    rw [stkOk]
    exact ⟨hf, fun z => absurd z hs, fun z => absurd z hb, h.stk⟩
  · show _ = cntP p (f :: s.frs)
    rw [cntP, if_neg fun z => hb z.1, Nat.zero_add]
    exact h.cnt p
theorem StOk.steps (h : StOk c bits m s) (st : List Stp) : StOk c bits m { s with steps := st } := ⟨h.tk, h.bl, h.stk, h.cnt⟩
theorem bit_ok {n : Nat} (h : StOk c bits m s) (hb : bitC bits s = .ok (n, s')) : StOk c bits m s' ∧ s'.frs = s.frs ∧ s'.steps = s.steps ∧ s'.taken = s.taken + 1 ∧ s'.begun = s.begun := by
  rw [bitC] at hb
  split at hb
  · cases hb
  · cases hb
    exact ⟨⟨by have := h.tk; show s.taken + 1 ≤ _; omega, h.bl, h.stk, h.cnt⟩, rfl, rfl, rfl, rfl⟩
theorem bgn_ok {p : Nat} {nx : Option (List Stm × List Stm)} (h : StOk c bits m s) (hm : bo.length = m) (hbo : ∀ b ∈ bo, ∃ lv, okL c m b lv) (hp : p < m) (hnx : ∀ a b, nx = some (a, b) → (∃ lv, okL c m a lv) ∧ ∃ lv, okL c m b lv) (hs : s.frs ≠ [] → nx.isSome) (hb : bgnC bo s p nx = .ok s') :
    StOk c bits m s' ∧ sz s' = sz s + 1 ∧ s'.taken = s.taken := by
  rw [bgnC] at hb
  split at hb
  · cases hb
  · cases hb
    refine ⟨⟨h.tk, by show (List.set _ _ _).length = m; rw [List.length_set]; exact h.bl, ?_, fun q => ?_⟩, ?_, rfl⟩
    · show stkOk c m (_ :: s.frs)
      rw [stkOk]
      refine ⟨⟨?_, fun _ => hp, hnx, Nat.zero_le _⟩, fun _ => rfl, fun _ z => hs z, h.stk⟩
      have hlt : p < bo.length := by omega
      refine hbo _ ?_
      rw [List.getD_eq_getElem?_getD, List.getElem?_eq_getElem hlt]
      exact List.getElem_mem hlt
    · show ((s.begun.set p (s.begun.getD p [] ++ [s.taken])).getD q []).length = cntP q (_ :: s.frs)
      rw [getD_set _ _ _ _ _ (by rw [h.bl]; exact hp), cntP]
      have := h.cnt q
      by_cases z : q = p
      · subst z
        rw [if_pos rfl, if_pos ⟨rfl, rfl⟩, List.length_append, List.length_singleton]
        omega
      · rw [if_neg z, if_neg fun y => z y.2.symm]
        omega
    · show s.steps.length + (_ :: s.frs).length = _
      rw [List.length_cons, sz]
      omega
theorem exc_ok {st : Stm} {lv : Nat} (h : StOk c bits m s) (hm : bo.length = m) (hbo : ∀ b ∈ bo, ∃ lv, okL c m b lv) (hs : s.frs ≠ []) (hst : okS c m st lv) (he : excC c bits bo s st = .ok s') : StOk c bits m s' ∧ sz s' ≤ sz s + 3 := by
  cases st with
  | set k r =>
    cases he
    refine ⟨⟨h.tk, h.bl, h.stk, h.cnt⟩, ?_⟩
    show (s.steps ++ [_]).length + s.frs.length ≤ _
    rw [List.length_append, List.length_singleton, sz]; omega
  | carry r =>
    cases he
    refine ⟨⟨h.tk, h.bl, h.stk, h.cnt⟩, ?_⟩
    show (s.steps ++ [_]).length + s.frs.length ≤ _
    rw [List.length_append, List.length_singleton, sz]; omega
  | keep cs b =>
    rw [okS] at hst
    cases he
    refine ⟨opn_ok (h.steps _) hs ⟨⟨_, hst.2.2.2⟩, fun z => (nomatch z), fun a b z => (nomatch z), Nat.zero_le _⟩ (by intro z; cases z), ?_⟩
    show (s.steps ++ [_]).length + (_ :: s.frs).length ≤ _
    simp only [List.length_append, List.length_cons, List.length_nil, sz]; omega
  | either a b =>
    rw [okS] at hst
    rw [excC] at he
    cases hb : bitC bits s with
    | error e => rw [hb] at he; cases he
    | ok vs =>
      obtain ⟨v, s1⟩ := vs
      rw [hb] at he
      cases he
      obtain ⟨h1, h2, h3, _⟩ := bit_ok h hb
      refine ⟨opn_ok h1 (by rw [h2]; exact hs) ⟨?_, fun z => (nomatch z), fun a b z => (nomatch z), Nat.zero_le _⟩ (by intro z; cases z), ?_⟩
      · dsimp only
        split
        · exact ⟨_, hst.2.2.1⟩
        · exact ⟨_, hst.2.2.2.2⟩
      · show s1.steps.length + (_ :: s1.frs).length ≤ _
        rw [List.length_cons, h2, h3, sz]; omega
  | again b =>
    rw [okS] at hst
    cases he
    refine ⟨opn_ok h hs ⟨⟨_, hst.2.2⟩, fun z => (nomatch z), fun a b z => (nomatch z), Nat.le_refl _⟩ (by intro z; cases z), ?_⟩
    show s.steps.length + (_ :: s.frs).length ≤ _
    rw [List.length_cons, sz]; omega
  | call p r a b =>
    rw [okS] at hst
    rw [excC] at he
    obtain ⟨h1, h2, _⟩ := bgn_ok (h.steps _) hm hbo hst.2.1 (fun x y z => by cases z; exact ⟨⟨_, hst.2.2.2.2.1⟩, ⟨_, hst.2.2.2.2.2.2⟩⟩) (fun _ => rfl) he
    refine ⟨h1, ?_⟩
    rw [h2]
    show (s.steps ++ [_, _]).length + s.frs.length + 1 ≤ _
    rw [List.length_append, sz]
    show s.steps.length + 2 + _ + 1 ≤ _
    omega
  | fin w =>
    cases he
    obtain ⟨h1, h2⟩ := end_ok (way := w) (bits := bits) h.tk h.bl s.frs s.steps h.stk hs h.cnt
    exact ⟨h1, by show sz (endL w s s.frs s.steps) ≤ _; rw [sz, sz]; omega⟩
theorem cls_ok {f : Fr} {r : List Fr} (h : StOk c bits m s) (hs : s.frs = f :: r) (hb : f.w ≠ .body) : StOk c bits m (clsC s) ∧ sz (clsC s) ≤ sz s := by
  have h1 := h.stk
  have h2 := h.cnt
  rw [hs, stkOk] at h1
  rw [hs] at h2
  rw [clsC, hs]
  refine ⟨⟨h.tk, h.bl, h1.2.2.2, fun p => ?_⟩, ?_⟩
  · have := h2 p
    rw [cntP, if_neg fun z => hb z.1, Nat.zero_add] at this
    exact this
  · have := clsS_len f s.steps
    rw [sz, sz, hs, List.length_cons]
    show (clsS f s.steps).length + r.length ≤ _
    omega
theorem lve_ok {f : Fr} {r : List Fr} (h : StOk c bits m s) (hs : s.frs = f :: r) (he : lveC bits s f r = .ok s') : StOk c bits m s' ∧ sz s' ≤ sz s + 3 := by
  rw [lveC] at he
  by_cases hb : f.w = .body
  · rw [if_pos hb] at he
    cases he
    obtain ⟨h1, h2⟩ := end_ok (way := 0) (bits := bits) h.tk h.bl s.frs s.steps h.stk (by rw [hs]; simp) h.cnt
    exact ⟨h1, by show sz (endL 0 s s.frs s.steps) ≤ _; rw [sz, sz]; omega⟩
  · rw [if_neg hb] at he
    by_cases ha : f.w = .again
    · rw [if_pos ha, lveA] at he
      cases hbc : bitC bits s with
      | error e => rw [hbc] at he; cases he
      | ok vs =>
        obtain ⟨v, s1⟩ := vs
        rw [hbc] at he
        obtain ⟨h1, h2, h3, _⟩ := bit_ok h hbc
        dsimp only at he
        split at he
        · cases he
          have k1 := h1.stk
          have k2 := h1.cnt
          rw [h2, hs, stkOk] at k1
          rw [h2, hs] at k2
          refine ⟨⟨h1.tk, h1.bl, ?_, fun p => ?_⟩, ?_⟩
          · show stkOk c m (_ :: r)
            rw [stkOk]
            exact ⟨⟨k1.1.1, k1.1.2.1, k1.1.2.2.1, Nat.zero_le _⟩, k1.2⟩
          · exact k2 p
          · show s1.steps.length + (_ :: r).length ≤ _
            rw [sz, h3, hs, List.length_cons, List.length_cons]
            omega
        · cases he
          obtain ⟨g1, g2⟩ := cls_ok h1 (h2.trans hs) hb
          refine ⟨g1, Nat.le_trans g2 ?_⟩
          rw [sz, sz, h2, h3]
          omega
    · rw [if_neg ha] at he
      cases he
      obtain ⟨g1, g2⟩ := cls_ok h hs hb
      exact ⟨g1, by omega⟩
/-- the statement that the innermost block goes on with -/
theorem okL_get {c m lv i : Nat} {b : List Stm} {st : Stm} (h : okL c m b lv) (hi : b[i]? = some st) : okS c m st lv := okL_mem h (List.mem_of_getElem? hi)
theorem next_ok {f : Fr} {r : List Fr} (h : StOk c bits m s) (hs : s.frs = f :: r) (hp : f.pos < f.blk.length) : StOk c bits m { s with frs := { f with pos := f.pos + 1 } :: r } := by
  have k1 := h.stk
  have k2 := h.cnt
  rw [hs, stkOk] at k1
  rw [hs] at k2
  refine ⟨h.tk, h.bl, ?_, k2⟩
  show stkOk c m (_ :: r)
  rw [stkOk]
  exact ⟨⟨k1.1.1, k1.1.2.1, k1.1.2.2.1, hp⟩, k1.2⟩
theorem adv_ok (h : StOk c bits m s) (hm : bo.length = m) (hbo : ∀ b ∈ bo, ∃ lv, okL c m b lv) (he : advC c bits bo s = .ok s') : StOk c bits m s' ∧ sz s' ≤ sz s + 3 := by
  rw [advC] at he
  cases hs : s.frs with
  | nil =>
    rw [hs] at he
    cases he
    exact ⟨h, by omega⟩
  | cons f r =>
    rw [hs] at he
    dsimp only at he
    by_cases hp : f.pos = f.blk.length
    · rw [if_pos hp] at he
      exact lve_ok h hs he
    · rw [if_neg hp] at he
      have k1 := h.stk
      rw [hs, stkOk] at k1
      have hlt : f.pos < f.blk.length := by have := k1.1.2.2.2; omega
      have hn := next_ok h hs hlt
      obtain ⟨lv, hlv⟩ := k1.1.1
      have hg := List.getElem?_eq_getElem hlt
      rw [hg] at he
      dsimp only at he
      obtain ⟨h1, h2⟩ := exc_ok hn hm hbo (by simp) (okL_get hlv hg) he
      refine ⟨h1, Nat.le_trans h2 ?_⟩
      rw [sz, sz, hs]
      exact Nat.le_refl _
end
section
variable {P : Program} {w : World} {K : PySem.W.Frag} {mg : Str → Option Value} {base : Heap} {σ : L2.St} {Hd Hd' H H' H0 : Hp}
variable {CE CF CN x dx F B S bt : Addr} {c m : Nat} {bits : List Nat} {bo : List (List Stm)} {s : Cf} {bv : V} {fs : List FV} {bs : List BV} {svs : List V}
theorem okS_call {c m lv p : Nat} {r : List Int} {a b : List Stm} (h : okS c m (.call p r a b) lv) : p < m := by rw [okS] at h; exact h.2.1
theorem okS_fin {c m lv w : Nat} (h : okS c m (.fin w) lv) : w < 2 := by rw [okS] at h; exact h
theorem okS_keep {c m lv : Nat} {cs : List Nat} {b : List Stm} (h : okS c m (.keep cs b) lv) : cs.length ≤ c := by rw [okS] at h; exact asc_len h.2.1
/-! ### the next thing is done -/
def spAdv (K : PySem.W.Frag) (CE CF CN : Addr) : Sp := fun vs H Q E => ∃ (x : Addr) (c m : Nat) (bits : List Nat) (bo : List (List Stm)) (s : Cf) (Hd Hb : Hp), vs = [.ref x] ∧ Rep K CE CF Hd H x c bits bo s ∧ Ex Hb Hd ∧ StOk c bits m s ∧ bo.length = m ∧ c ≤ 3 ∧ s.frs ≠ [] ∧ bits.length ≤ 10000 ∧ (∀ b ∈ bits, b ≤ 1) ∧ sz s ≤ 60000 ∧
  (∀ i, advC c bits bo s = .error i → ErrAt CN Hb i E) ∧ ∀ s' Hd' H', advC c bits bo s = .ok s' → Ex Hd Hd' → Rep K CE CF Hd' H' x c bits bo s' → Q .non H'
theorem ok_advance {f fL fX : Addr} {fd fdL fdX : FuncData} {k : Nat} (Fm : Fun K "_advance" "Execution._advance" sExecution__advance f fd) (X : ExC K CE CF) (z_len : mg "len" = none)
    (FL : FnOk P w K mg base (L2.CX P w) 19 fL fdL ["self", "frame"] (spLeave K CE CF CN)) (mL : Meth K CE "_leave" fL) (bL : Binds K fdL ["self", "frame"] [])
    (FX : FnOk P w K mg base (L2.CX P w) 19 fX fdX ["self", "statement"] (spExec K CE CF CN)) (mX : Meth K CE "_execute" fX) (bX : Binds K fdX ["self", "statement"] []) (hk : 19 ≤ k) :
    FnOk P w K mg base (L2.CX P w) (k + 1) f fd ["self"] (spAdv K CE CF CN) := by
  have sc := scExecution__advance
  refine Fm.okX sc (fun vs H Q E h => ?_) (fun cdv A outer s H vs Q E hr h => ?_)
  · obtain ⟨x, c, m, bits, bo, s, Hd, Hb, rfl, _⟩ := h
    rfl
  · obtain ⟨x, c, m, bits, bo, s, Hd, Hb, rfl, ⟨dx, F, B, S, bt, bv, fs, bs, svs, r⟩, eb, hst, hm, hc3, hfr, hln, hbit, hsz, qe, qo⟩ := h
    refine ⟨_, (pss_cons (ps_set (i := 1) sc.nd rfl (by first | exact Or.inl rfl | exact Or.inr rfl) (pe_ix ix_list (pe_fld (pv 0) rfl) (pe_un un_neg pe_int) (fun _ _ => rfl)))
      (pss_cons (ps_if (pt_cmpR op_eq (pe_fld (pv 1) rfl) (pe_callB call_len_seq (by rfl) z_len (by decide +kernel) (pa_cons (pe_fld (pv 1) rfl) pa_nil)) (nomark _))
      (pss_cons (ps_expr (pe_meth (pv 0) X.cE mL FL (hr.mono (by omega)) bL .nil (passes_call (takes_of rfl rfl rfl rfl) fun _ _ _ _ h => h) (pa_cons (pv 1) pa_nil)))
      (pss_one ps_retN))
      pss_nil)
      (pss_cons (ps_fld (pv 1) (pe_op op_add (pe_fld (pv 1) rfl) pe_int) rfl)
      (pss_one (ps_expr (pe_meth (pv 0) X.cE mX FX (hr.mono (by omega)) bX .nil (passes_call (takes_of rfl rfl rfl rfl) fun _ _ _ _ h => h) (pa_cons (pe_ix ix_list (pe_fld (pv 1) rfl) (pe_op op_sub (pe_fld (pv 1) rfl) pe_int) (fun _ _ => rfl)) pa_nil))))))), ?_⟩
    have hmm := r.hfs
    cases fs with
    | nil => exact absurd hmm.symm hfr
    | cons v fs =>
      have hv := r.hf (List.mem_cons_self ..)
      have hok := r.hfr v (List.mem_cons_self ..)
      have hs : s.frs = v.f :: fs.map (·.f) := hmm.symm
      have hk1 := hst.stk
      rw [hs, stkOk] at hk1
      obtain ⟨ba, bx, hbv, hba, hbx⟩ := dp_lst hok.1
      have lbx : bx.length = v.f.blk.length := by rw [dpa_len hbx, toDs_len]
      refine q_asg (v := .ref v.a) (ev_op (ev_exf X.cE X.n_frames (ev_var rfl) r.hx rfl) (ev_un ev_c ru_neg) (rv_ixL (sq_of r.hF) (by rw [List.reverse_cons, List.map_append]; exact atI_last _ _))) fun H1 e1 => ?_
      have r1 := r.mono e1
      have hv1 := r1.hf (List.mem_cons_self ..)
      rw [hbv] at hv1
      have hpos := hk1.1.2.2.2
      have test : EvT (tTest (tOp rEq (tFld K (tVar 1) "at") (tCB (rLenS K) (tCons (tFld K (tVar 1) "block") tNil)))) [some (.ref x), some (.ref v.a)] H1 (decide (v.f.pos = v.f.blk.length)) := et_is (et_test (ev_op (ev_fld X.cF X.n_at (ev_var rfl) hv1 rfl) (ev_lenS (ev_fld X.cF X.n_block (ev_var rfl) hv1 rfl) (.inl (ex_l r1.own.ex hba))) (rv_eq rfl))) (by
        rw [decide_eq_decide, lbx]
        constructor
        · intro h
          have := V.int.inj h
          omega
        · intro h; rw [h])
      by_cases hp : v.f.pos = v.f.blk.length
      · refine q_when (et_is test (decide_eq_true hp)) (fun _ H2 e2 => ?_) (fun h => (nomatch h))
        have r2 := r1.mono e2
        have hadv : advC c bits bo s = lveC bits s v.f (fs.map (·.f)) := by
          rw [advC, hs]
          dsimp only
          rw [if_pos hp]
        refine ⟨.ref x, rfl, x, dx, _, rfl, r2.hx, rfl, .ref v.a, rfl, ?_⟩
        refine ⟨x, c, bits, bo, s, Hd, Hb, dx, F, B, S, bt, bv, v, fs, bs, svs, _, rfl, r2, hs, eb, hst.tk, hln, fun _ => hst.endOk hfr, by rw [sz] at hsz; omega, fun i hi => qe i (by rw [hadv, hi]), fun s' Hd' H3 hs' eg r3 => qo s' Hd' H3 (by rw [hadv, hs']) eg r3⟩
      · refine q_when (et_is test (decide_eq_false hp)) (fun h => (nomatch h)) (fun _ H2 e2 => ?_)
        have r2 := r1.mono e2
        have hlt : v.f.pos < v.f.blk.length := by omega
        have hg := List.getElem?_eq_getElem hlt
        obtain ⟨lv, hlv⟩ := hk1.1.1
        have hstm := okL_get hlv hg
        have hadv : advC c bits bo s = excC c bits bo { s with frs := { v.f with pos := v.f.pos + 1 } :: fs.map (·.f) } v.f.blk[v.f.pos] := by
          rw [advC, hs]
          dsimp only
          rw [if_neg hp, hg]
        generalize v.f.blk[v.f.pos] = st at hg hstm hadv
        have hv2 := r2.hf (List.mem_cons_self ..)
        refine ⟨.ref v.a, rfl, v.a, CF, v.dx, _, .int (v.f.pos : Int), rfl, hv2, X.cF, X.n_at, rfl, (v.f.pos : Int), 1, rfl, rfl, ?_⟩
        refine ⟨.ref v.a, rfl, v.a, CF, v.dx, _, rfl, hv2, X.cF, X.n_at, by show 4 < 1000; decide, ?_⟩
        dsimp only
        have hz : ((v.f.pos : Int) + 1) = ((v.f.pos + 1 : Nat) : Int) := by omega
        rw [hz, putF_at]
        have r3 := r2.setAt hs (v.f.pos + 1)
        generalize upd H2 v.a (.ins CF v.dx (frF v.f v.bv v.tv ((v.f.pos + 1 : Nat) : Int))) = H3 at r3 ⊢
        have hv3 := r3.hf (List.mem_cons_self ..)
        dsimp only at hv3
        rw [hbv] at hv3
        have hgd : (toDs v.f.blk)[v.f.pos]? = some (toD st) := by rw [toDs_map, List.getElem?_map, hg]; rfl
        obtain ⟨u, hu, du⟩ := dpa_get hbx hgd
        have hso := next_ok hst hs hlt
        refine ⟨.ref x, rfl, x, dx, _, rfl, r3.hx, rfl, ?_⟩
        refine ⟨.ref v.a, rfl, v.a, CF, v.dx, _, .ref ba, rfl, hv3, X.cF, X.n_block, rfl, .ref v.a, rfl, v.a, CF, v.dx, _, .int ((v.f.pos + 1 : Nat) : Int), rfl, hv3, X.cF, X.n_at, rfl, ((v.f.pos + 1 : Nat) : Int), 1, rfl, rfl, ba, bx, _, u, rfl, rfl, ex_l r3.own.ex hba, at_of (j := v.f.pos) (by show ((v.f.pos + 1 : Nat) : Int) - 1 = _; omega) hu, ?_⟩
        have hsz2 : sz s = s.steps.length + ((fs.map (·.f)).length + 1) := by rw [sz, hs, List.length_cons]
        refine ⟨x, c, bits, bo, _, Hd, Hb, u, st, rfl, du, ⟨dx, F, B, S, bt, bv, _, bs, svs, r3⟩, eb, hst.tk, hln, hbit, by rw [hm]; exact hst.bl, fun l hl => ?_, ?_, fun p r a b z => ?_, fun w z => ?_, fun cs b z => ?_, fun i hi => qe i (by rw [hadv, hi]), fun s' Hd' H4 hs' eg r4 => qo s' Hd' H4 (by rw [hadv, hs']) eg r4⟩
        · have := hst.begun_len l hl
          rw [sz] at hsz
          omega
        · show s.steps.length + (_ :: fs.map (·.f)).length ≤ 70000
          rw [List.length_cons]
          omega
        · subst z
          rw [hm]
          exact okS_call hstm
        · subst z
          exact ⟨okS_fin hstm, hso.endOk (by simp)⟩
        · subst z
          have := okS_keep hstm
          omega
end
/-- an execution's start -/
def iniC (bo : List (List Stm)) : Cf := ⟨0, [], bo.map fun _ => [], [], 0, 0⟩
/-- the whole execution, with n things to do at most -/
def runC (c : Nat) (bits : List Nat) (bo : List (List Stm)) (p n : Nat) : Option (Except Int Cf) := match bgnC bo (iniC bo) p none with
  | .error e => some (.error e)
  | .ok s => match goC c bits bo n s with
    | some (.ok s') => if s'.taken < bits.length then some (.error (s'.taken : Int)) else some (.ok s')
    | o => o
section
variable {P : Program} {w : World} {K : PySem.W.Frag} {mg : Str → Option Value} {base : Heap} {σ : L2.St} {Hd Hd' H H' H0 : Hp}
variable {CB CE CF CN x dx F B S bt : Addr} {c m : Nat} {bits : List Nat} {bo : List (List Stm)} {s : Cf} {bv : V} {fs : List FV} {bs : List BV} {svs : List V}
theorem ini_get (p : Nat) : (iniC bo).begun.getD p [] = [] := by
  show (bo.map fun _ => ([] : List Nat)).getD p [] = []
  rw [List.getD_eq_getElem?_getD, List.getElem?_map]
  cases bo[p]? <;> rfl
theorem ini_ok : StOk c bits bo.length (iniC bo) := ⟨Nat.zero_le _, by show (bo.map _).length = _; rw [List.length_map], by show stkOk _ _ []; rw [stkOk]; trivial, fun p => by rw [ini_get]; rfl⟩
/-! ### Execution(..) -/
def spExI (K : PySem.W.Frag) (CB CE CF CN : Addr) : Sp := fun vs H Q E => ∃ (x dx bk : Addr) (v : V) (c p n : Nat) (bo : List (List Stm)) (bt : Addr) (bits : List Nat) (r : Except Int Cf) (Hb : Hp), vs = [.ref x, .ref bk, .int (p : Int), .ref bt] ∧ H x = some (.ins CE dx []) ∧ Hb x = none ∧ Ex Hb H ∧ BkO CB Hb bk c v ∧ Dp K Hb v (toB bo) ∧ fit (toB bo) 14 = true ∧
  (∀ b ∈ bo, okB c bo.length b) ∧ c ≤ 3 ∧ bo.length ≤ 3 ∧ p < bo.length ∧ SqL K Hb bt (bits.map nV) ∧ (∀ b ∈ bits, b ≤ 1) ∧ bits.length ≤ 10000 ∧ runC c bits bo p n = some r ∧ n ≤ 18000 ∧
  (∀ i, r = .error i → ErrAt CN Hb i E) ∧ ∀ s' Hd' H', r = .ok s' → Ex Hb Hd' → Rep K CE CF Hd' H' x c bits bo s' → Q .non H'
theorem q_setF {te : TE} {f : Str} {v : V} {C : Addr} {fl : List (Str × V)} {D : Ends} {tz : TS} (hc : Cls K C) (nf : NoAttr K C f) (hσ : σ[0]? = some (some (.ref x))) (h : Ev te σ H v) (hx : H x = some (.ins C dx fl)) (hl : fl.length < 1000) (k : ∀ H1, Ex H H1 → tz D σ (upd H1 x (.ins C dx (putF f v fl)))) :
    tSeq (sFld K (tVar 0) te f) tz D σ H := h H (Ex.refl _) _ fun H1 e1 => ⟨.ref x, hσ, x, C, dx, fl, rfl, e1 _ _ hx, hc, nf, hl, k H1 e1⟩
theorem own_one {o : HO} (e : Ex Hd H) (h : Hd x = none) (hx : H x = some o) : Own Hd [(x, o)] H := ⟨by simp, fun p hp => by rw [List.mem_singleton.mp hp]; exact hx, e, fun p hp => by rw [List.mem_singleton.mp hp]; exact h⟩
theorem ok_exinit {f fA fG fN fb fc : Addr} {fd fdA fdG fdN fdb fdc : FuncData} {k : Nat} (Fm : Fun K "__init__" "Execution.__init__" sExecution___init__ f fd) (X : ExC K CE CF) (z_len : mg "len" = none) (cB : Cls K CB)
    (Fbd : FnOk P w K mg base CX0 16 fb fdb ["self"] (spBds K CB 15)) (mbd : Meth K CB "bodies" fb) (bbd : Binds K fdb ["self"] [])
    (Fcl : FnOk P w K mg base CX0 1 fc fdc ["self"] (spBkCells CB)) (mcl : Meth K CB "cells" fc) (bcl : Binds K fdc ["self"] [])
    (FG : FnOk P w K mg base (L2.CX P w) 18 fG fdG ["self", "procedure", "blocks"] (spBegin K CE CF CN)) (mG : Meth K CE "_begin" fG) (bG : Binds K fdG ["self", "procedure", "blocks"] [])
    (FA : FnOk P w K mg base (L2.CX P w) 20 fA fdA ["self"] (spAdv K CE CF CN)) (mA : Meth K CE "_advance" fA) (bA : Binds K fdA ["self"] [])
    (TN : OexC K CN) (iN : PySem.W.findIn K (.ref CN) "__init__" = some (some (.ref fN))) (tN : PySem.W.typeIn K (.ref fN) = some (.type "function")) (FN : FnOk P w K mg base CX0 16 fN fdN ["self", "index"] (spNR K CN)) (bN : Binds K fdN ["self", "index"] []) (gN : mg "NoRun" = some (.ref CN)) (hk : 20 ≤ k) :
    FnOk P w K mg base (L2.CX P w) (k + 1) f fd ["self", "book", "procedure", "bits"] (spExI K CB CE CF CN) := by
  have sc := scExecution___init__
  refine Fm.okX sc (fun vs H Q E h => ?_) (fun cdv A outer s H vs Q E hr h => ?_)
  · obtain ⟨x, dx, bk, v, c, p, n, bo, bt, bits, r, Hb, rfl, _⟩ := h
    rfl
  · obtain ⟨x, dx, bk, v, c, p, n, bo, bt, bits, r, Hb, rfl, hx, hbx, eb, ⟨dk, hbk⟩, hv, hfit, hok, hc3, hm3, hp, hbt, hb1, hbl, hrun, hn, qe, qo⟩ := h
    refine ⟨_, (pss_cons (ps_fld (pv 0) (pe_meth0 (pv 1) cB mbd Fbd (hr.mono (by omega)) bbd .nil pass0) rfl)
      (pss_cons (ps_fld (pv 0) (pe_op op_add (pe_meth0 (pv 1) cB mcl Fcl (hr.mono (by omega)) bcl .nil pass0) pe_int) rfl)
      (pss_cons (ps_fld (pv 0) (pv 3) rfl)
      (pss_cons (ps_fld (pv 0) pe_int rfl)
      (pss_cons (ps_fld (pv 0) (pe_lst pa_nil) rfl)
      (pss_cons (ps_fld (pv 0) (pe_lc (own := [("_", 4)]) (by rfl) sc.nd (pi_list (pe_fld (pv 0) rfl)) (blkOk_by (own := [("_", 4)]) (N := ["self", "book", "procedure", "bits", "_"]) (sc := defScope sExecution___init__) (by decide +kernel)) (fun _ _ _ _ _ => (pg_name (i := 4) sc.nd rfl (by first | exact Or.inl rfl | exact Or.inr rfl))) (fun _ _ _ _ _ => pts_nil) (fun _ _ _ _ _ => (pe_lst pa_nil))) rfl)
      (pss_cons (ps_fld (pv 0) (pe_lst pa_nil) rfl)
      (pss_cons (ps_fld (pv 0) pe_int rfl)
      (pss_cons (ps_fld (pv 0) pe_int rfl)
      (pss_cons (ps_expr (pe_meth (pv 0) X.cE mG FG (hr.mono (by omega)) bG .nil (passes_call (takes_of rfl rfl rfl rfl) fun _ _ _ _ h => h) (pa_cons (pv 2) (pa_cons (pe_lst pa_nil) pa_nil))))
      (pss_cons (ps_while (passes_of rfl) (pt_truth (pe_fld (pv 0) rfl) (by intro _; rfl))
      (pss_one (ps_expr (pe_meth0 (pv 0) X.cE mA FA (hr.mono (by omega)) bA .nil (passes_call (takes_of rfl rfl rfl rfl) fun _ _ _ _ h => h)))))
      (pss_one (ps_if (pt_cmpR op_lt (pe_fld (pv 0) rfl) (pe_callB call_len_seq (by rfl) z_len (by decide +kernel) (pa_cons (pv 3) pa_nil)) (nomark _))
      (pss_one (ps_raise rfl (takes_of rfl rfl rfl rfl) (pmk_oex TN iN tN FN (hr.mono (by omega)) bN .nil pass0 (by rfl) gN (pa_cons (pe_fld (pv 0) rfl) pa_nil))))
      pss_nil))))))))))))), ?_⟩
    -- self._bodies = book.bodies()
    refine ⟨.ref bk, rfl, bk, dk, _, rfl, eb _ _ hbk, rfl, ?_⟩
    refine ⟨bk, c, v, toB bo, 14, rfl, ⟨dk, eb _ _ hbk⟩, dp_ex eb _ _ hv, hfit, rfl, fun bv H1 e1 dq => ?_⟩
    have hx1 := e1 _ _ hx
    have eb1 := eb.trans e1
    have ebd : Ex Hb (Ct x H1) := ct_base eb1 hbx
    have hbo : Dp K (Ct x H1) bv (toB bo) := dq_dp (N := fun _ => True) _ _ (dq_to (fun _ _ => trivial) (fun a o na ha => ct_o ha (new_ne na ⟨_, hx⟩)) _ _ dq)
    refine ⟨.ref x, rfl, x, CE, dx, _, rfl, hx1, X.cE, X.n_bodies, by show 0 < 1000; decide, ?_⟩
    have o1 : Own (Ct x H1) [(x, .ins CE dx (putF "_bodies" bv []))] (upd H1 x (.ins CE dx (putF "_bodies" bv []))) := own_one (ct_ex.mut ct_self) ct_self upd_same
    generalize upd H1 x (.ins CE dx (putF "_bodies" bv [])) = H2 at o1 ⊢
    dsimp only
    generalize Ct x H1 = Hd at ebd hbo o1
    -- self._last = book.cells() + 1
    have hbk2 := o1.ex _ _ (ebd _ _ hbk)
    refine ⟨.ref bk, rfl, bk, dk, _, rfl, hbk2, rfl, ?_⟩
    refine ⟨bk, c, v, rfl, ⟨dk, hbk2⟩, fun H3 e3 => ⟨(c : Int), 1, rfl, rfl, ?_⟩⟩
    have o2 := o1.mono e3
    refine ⟨.ref x, rfl, x, CE, dx, _, rfl, o2.get (List.mem_cons_self ..), X.cE, X.n_last, by show 1 < 1000; decide, ?_⟩
    have o3 := Own.upd (La := []) o2 (.ins CE dx (putF "_last" (.int ((c : Int) + 1)) (putF "_bodies" bv [])))
    dsimp only
    generalize upd H3 x (.ins CE dx (putF "_last" (.int ((c : Int) + 1)) (putF "_bodies" bv []))) = H4 at o3 ⊢
    -- self._bits, self._taken
    refine q_setF X.cE X.n_bits rfl (ev_var rfl) (o3.get (List.mem_cons_self ..)) (by show 2 < 1000; decide) fun H5 e5 => ?_
    have o4 := Own.upd (La := []) (o3.mono e5) (.ins CE dx (putF "_bits" (.ref bt) (putF "_last" (.int ((c : Int) + 1)) (putF "_bodies" bv []))))
    generalize upd H5 x (.ins CE dx (putF "_bits" (.ref bt) (putF "_last" (.int ((c : Int) + 1)) (putF "_bodies" bv [])))) = H6 at o4 ⊢
    refine q_setF X.cE X.n_taken rfl ev_c (o4.get (List.mem_cons_self ..)) (by show 3 < 1000; decide) fun H7 e7 => ?_
    have o5 := Own.upd (La := []) (o4.mono e7) (.ins CE dx (putF "_taken" (.int 0) (putF "_bits" (.ref bt) (putF "_last" (.int ((c : Int) + 1)) (putF "_bodies" bv [])))))
    generalize upd H7 x (.ins CE dx (putF "_taken" (.int 0) (putF "_bits" (.ref bt) (putF "_last" (.int ((c : Int) + 1)) (putF "_bodies" bv []))))) = H8 at o5 ⊢
    -- self._frames = []
    refine ⟨by show 0 ≤ sizeLine; decide, fun F nF => ?_⟩
    have o6 := Own.new (La := [_]) (Lb := []) o5 (Ex.new (o := .lst []) nF) nF upd_same
    refine ⟨.ref x, rfl, x, CE, dx, _, rfl, o6.get (List.mem_cons_self ..), X.cE, X.n_frames, by show 4 < 1000; decide, ?_⟩
    have o7 := Own.upd (La := []) o6 (.ins CE dx (putF "_frames" (.ref F) (putF "_taken" (.int 0) (putF "_bits" (.ref bt) (putF "_last" (.int ((c : Int) + 1)) (putF "_bodies" bv []))))))
    dsimp only
    generalize upd (upd H8 F (.lst [])) x (.ins CE dx (putF "_frames" (.ref F) (putF "_taken" (.int 0) (putF "_bits" (.ref bt) (putF "_last" (.int ((c : Int) + 1)) (putF "_bodies" bv [])))))) = H9 at o7 ⊢
    -- self._begun = [[] for _ in self._bodies]
    have hbo0 := hbo
    obtain ⟨ba, bx, hbv, hba, hbxs⟩ := dp_lst hbo
    subst hbv
    have lbx : bx.length = bo.length := by rw [dpa_len hbxs, List.length_map]
    refine ⟨.ref x, rfl, x, CE, dx, _, .ref ba, rfl, o7.get (List.mem_cons_self ..), X.cE, X.n_bodies, rfl, ba, rfl, ⟨bx, ex_l o7.ex hba⟩, fun B nB => ?_⟩
    have o8 := Own.new (La := [_, _]) (Lb := []) o7 (Ex.new (o := .lst []) nB) nB upd_same
    refine lc_list (xs := bx) (fun i H' => ∃ bs : List BV, bs.map (·.l) = List.replicate i [] ∧ Own Hd ((x, .ins CE dx (putF "_frames" (.ref F) (putF "_taken" (.int 0) (putF "_bits" (.ref bt) (putF "_last" (.int ((c : Int) + 1)) (putF "_bodies" (.ref ba) [])))))) :: (F, .lst []) :: (B, .lst (bs.map fun v => .ref v.a)) :: bs.map BV.o) H')
      ⟨[], rfl, o8⟩ (fun i H' _ ⟨_, _, o⟩ => ex_l o.ex hba) (fun i y H' hy hP => ?_) (fun H' hP => ?_)
    · obtain ⟨bs, hbs, o⟩ := hP
      have hi : i < bx.length := (List.getElem?_eq_some_iff.mp hy).1
      have lbs : bs.length = i := by have := congrArg List.length hbs; rw [List.length_map, List.length_replicate] at this; exact this
      show wipe ((wipe _ _).set 4 (some y)) _ = wipe _ _ ∧ _
      refine ⟨rfl, by show 0 ≤ sizeLine; decide, fun L nL => ?_⟩
      have o' := Own.new (La := (x, .ins CE dx (putF "_frames" (.ref F) (putF "_taken" (.int 0) (putF "_bits" (.ref bt) (putF "_last" (.int ((c : Int) + 1)) (putF "_bodies" (.ref ba) [])))))) :: (F, .lst []) :: (B, .lst (bs.map fun v => .ref v.a)) :: bs.map BV.o) (Lb := []) (by rw [List.append_nil]; exact o) (Ex.new (o := .lst []) nL) nL upd_same
      refine ⟨bs.map fun v => .ref v.a, o'.get (by simp), by rw [List.length_map]; exact sz_lt (by omega), bs ++ [⟨L, []⟩], by rw [List.map_append, hbs, List.replicate_succ']; rfl, ?_⟩
      have o'' := Own.upd (La := [(x, .ins CE dx (putF "_frames" (.ref F) (putF "_taken" (.int 0) (putF "_bits" (.ref bt) (putF "_last" (.int ((c : Int) + 1)) (putF "_bodies" (.ref ba) [])))))), (F, .lst [])]) o' (.lst ((bs.map fun v => V.ref v.a) ++ [.ref L]))
      rw [List.map_append, List.map_append]
      exact o''
    · obtain ⟨bs, hbs, o⟩ := hP
      rw [lbx] at hbs
      refine ⟨.ref x, rfl, x, CE, dx, _, rfl, o.get (List.mem_cons_self ..), X.cE, X.n_begun, by show 5 < 1000; decide, ?_⟩
      have p1 := Own.upd (La := []) o (.ins CE dx (putF "_begun" (.ref B) (putF "_frames" (.ref F) (putF "_taken" (.int 0) (putF "_bits" (.ref bt) (putF "_last" (.int ((c : Int) + 1)) (putF "_bodies" (.ref ba) [])))))))
      dsimp only
      generalize upd H' x (.ins CE dx (putF "_begun" (.ref B) (putF "_frames" (.ref F) (putF "_taken" (.int 0) (putF "_bits" (.ref bt) (putF "_last" (.int ((c : Int) + 1)) (putF "_bodies" (.ref ba) []))))))) = Ha at p1 ⊢
      -- self.steps = []
      refine ⟨by show 0 ≤ sizeLine; decide, fun S nS => ?_⟩
      have p2 := Own.new (La := [_, _, _]) (Lb := bs.map BV.o) p1 (Ex.new (o := .lst []) nS) nS upd_same
      refine ⟨.ref x, rfl, x, CE, dx, _, rfl, p2.get (List.mem_cons_self ..), X.cE, X.n_steps, by show 6 < 1000; decide, ?_⟩
      have p3 := Own.upd (La := []) p2 (.ins CE dx (putF "steps" (.ref S) (putF "_begun" (.ref B) (putF "_frames" (.ref F) (putF "_taken" (.int 0) (putF "_bits" (.ref bt) (putF "_last" (.int ((c : Int) + 1)) (putF "_bodies" (.ref ba) []))))))))
      dsimp only
      generalize upd (upd Ha S (.lst [])) x (.ins CE dx (putF "steps" (.ref S) (putF "_begun" (.ref B) (putF "_frames" (.ref F) (putF "_taken" (.int 0) (putF "_bits" (.ref bt) (putF "_last" (.int ((c : Int) + 1)) (putF "_bodies" (.ref ba) [])))))))) = Hc at p3 ⊢
      -- self.length, self.way
      refine q_setF X.cE X.n_length rfl ev_c (p3.get (List.mem_cons_self ..)) (by show 7 < 1000; decide) fun He ee => ?_
      have p4 := Own.upd (La := []) (p3.mono ee) (.ins CE dx (putF "length" (.int 0) (putF "steps" (.ref S) (putF "_begun" (.ref B) (putF "_frames" (.ref F) (putF "_taken" (.int 0) (putF "_bits" (.ref bt) (putF "_last" (.int ((c : Int) + 1)) (putF "_bodies" (.ref ba) [])))))))))
      generalize upd He x (.ins CE dx (putF "length" (.int 0) (putF "steps" (.ref S) (putF "_begun" (.ref B) (putF "_frames" (.ref F) (putF "_taken" (.int 0) (putF "_bits" (.ref bt) (putF "_last" (.int ((c : Int) + 1)) (putF "_bodies" (.ref ba) []))))))))) = Hf at p4 ⊢
      refine q_setF X.cE X.n_way rfl ev_c (p4.get (List.mem_cons_self ..)) (by show 8 < 1000; decide) fun Hg eg => ?_
      have p5 := Own.upd (La := []) (p4.mono eg) (.ins CE dx (putF "way" (.int 0) (putF "length" (.int 0) (putF "steps" (.ref S) (putF "_begun" (.ref B) (putF "_frames" (.ref F) (putF "_taken" (.int 0) (putF "_bits" (.ref bt) (putF "_last" (.int ((c : Int) + 1)) (putF "_bodies" (.ref ba) []))))))))))
      generalize upd Hg x (.ins CE dx (putF "way" (.int 0) (putF "length" (.int 0) (putF "steps" (.ref S) (putF "_begun" (.ref B) (putF "_frames" (.ref F) (putF "_taken" (.int 0) (putF "_bits" (.ref bt) (putF "_last" (.int ((c : Int) + 1)) (putF "_bodies" (.ref ba) [])))))))))) = Hh at p5 ⊢
      have hfl : putF "way" (.int 0) (putF "length" (.int 0) (putF "steps" (.ref S) (putF "_begun" (.ref B) (putF "_frames" (.ref F) (putF "_taken" (.int 0) (putF "_bits" (.ref bt) (putF "_last" (.int ((c : Int) + 1)) (putF "_bodies" (.ref ba) [])))))))) = exF (.ref ba) c bt 0 F B S 0 0 := rfl
      rw [hfl] at p5
      have hrep : RepD K CE CF Hd Hh x c bits bo (iniC bo) dx F B S bt (.ref ba) [] bs [] := ⟨p5, hbo0, ex_l ebd hbt, rfl, fun _ h => (nomatch h), by rw [hbs]; show _ = bo.map fun _ => []; rw [List.map_const'], .nil⟩
      -- self._begin(procedure, [])
      refine ⟨.ref x, rfl, x, dx, _, rfl, hrep.hx, rfl, .int (p : Int), rfl, by show 0 ≤ sizeLine; decide, fun L nL => ?_⟩
      have hrep2 := hrep.mono (Ex.new (o := .lst []) nL)
      have hst0 : StOk c bits bo.length (iniC bo) := ini_ok
      refine ⟨x, c, bits, bo, iniC bo, Hd, Hb, p, .ref L, none, rfl, ⟨dx, F, B, S, bt, _, [], bs, [], hrep2⟩, ebd, hp, hst0.bl, Nat.zero_le _, fun l hl => Nat.le_trans (hst0.begun_len l hl) (Nat.zero_le _), fun a b z => (nomatch z), fun i hi => ?_, fun s1 Hd1 Hi hs1 eg1 r1 => ?_⟩
      · rw [bgnC, ini_get] at hi
        cases hi
      rw [runC, hs1] at hrun
      dsimp only at hrun
      have hboL : ∀ b ∈ bo, ∃ lv, okL c bo.length b lv := fun b hb => ⟨0, (hok b hb).1⟩
      obtain ⟨hst1, hsz1, _⟩ := bgn_ok (nx := none) hst0 rfl hboL hp (fun a b z => (nomatch z)) (fun z => absurd rfl z) hs1
      have hsz1 : sz s1 = 1 := hsz1
      -- while self._frames
      dsimp only
      refine Evl.q_while (fun m σ' H' => ∃ (s : Cf) (Hd' : Hp), σ' = [some (.ref x), some (.ref bk), some (.int (p : Int)), some (.ref bt), none] ∧ Rep K CE CF Hd' H' x c bits bo s ∧ Ex Hb Hd' ∧ StOk c bits bo.length s ∧ sz s + 3 * m ≤ 56000 ∧ goC c bits bo m s = goC c bits bo n s1) n
        ⟨s1, Hd1, rfl, r1, ebd.trans eg1, hst1, by omega, rfl⟩ (fun mm σ' Hj hP => ?_)
      obtain ⟨s, Hdj, rfl, rj, ebj, hstj, hszj, hgo⟩ := hP
      obtain ⟨dx2, F2, B2, S2, bt2, bv2, fs2, bs2, svs2, rj⟩ := rj
      have lfs : fs2.length = s.frs.length := by rw [← rj.hfs, List.length_map]
      refine ⟨!(fs2.reverse.map fun v => V.ref v.a).isEmpty, et_truL (ev_exf X.cE X.n_frames (ev_var rfl) rj.hx rfl) (sq_of rj.hF), fun hb Hk ek => ?_, fun hb Hk ek => ?_⟩
      · have hne : s.frs ≠ [] := by
          intro z
          rw [z, List.length_nil] at lfs
          rw [List.length_eq_zero_iff.mp lfs] at hb
          cases hb
        have rk := rj.mono ek
        cases mm with
        | zero =>
          rw [goC, if_neg hne] at hgo
          rw [← hgo] at hrun
          cases hrun
        | succ mm =>
          rw [goC, if_neg hne] at hgo
          refine ⟨fun σ' H' => ∃ (s : Cf) (Hd' : Hp), σ' = [some (.ref x), some (.ref bk), some (.int (p : Int)), some (.ref bt), none] ∧ Rep K CE CF Hd' H' x c bits bo s ∧ Ex Hb Hd' ∧ StOk c bits bo.length s ∧ sz s + 3 * mm ≤ 56000 ∧ goC c bits bo mm s = goC c bits bo n s1, fun σ2 H2 hN => ⟨mm, Nat.lt_succ_self _, hN⟩, ?_⟩
          refine ⟨.ref x, rfl, x, dx2, _, rfl, rk.hx, rfl, ?_⟩
          refine ⟨x, c, bo.length, bits, bo, s, Hdj, Hb, rfl, ⟨dx2, F2, B2, S2, bt2, bv2, fs2, bs2, svs2, rk⟩, ebj, hstj, rfl, hc3, hne, hbl, hb1, by omega, fun i hi => ?_, fun s' Hd' H3 hs' eg' r3 => ?_⟩
          · rw [hi] at hgo
            dsimp only at hgo
            rw [← hgo] at hrun
            dsimp only at hrun
            exact qe i (Option.some.inj hrun).symm
          · obtain ⟨h1, h2⟩ := adv_ok hstj rfl hboL hs'
            rw [hs'] at hgo
            exact ⟨s', Hd', rfl, r3, ebj.trans eg', h1, by omega, hgo⟩
      · have hnil : s.frs = [] := by
          cases h : s.frs with
          | nil => rfl
          | cons a b =>
            cases fs2 with
            | nil => rw [h, List.length_nil, List.length_cons] at lfs; omega
            | cons a' b' => rw [List.reverse_cons, List.map_append] at hb; simp at hb
        have hgo2 : goC c bits bo mm s = some (.ok s) := by cases mm <;> rw [goC, if_pos hnil]
        rw [hgo2] at hgo
        rw [← hgo] at hrun
        dsimp only at hrun
        have rk := rj.mono ek
        have hbt2 := ex_l rk.own.ex (rj.hbt)
        refine s_when (b := decide (s.taken < bits.length)) (et_is (et_test (ev_op (ev_exf X.cE X.n_taken (ev_var rfl) rk.hx rfl) (ev_lenS (ev_var rfl) (.inl (ex_l (ebj.trans rk.own.ex) hbt))) rv_I0)) ?_) (fun hlt Hl el => ?_) (fun hlt Hl el => ?_)
        · rw [List.length_map]
          rw [decide_eq_decide]
          omega
        · have hlt := of_decide_eq_true hlt
          rw [if_pos hlt] at hrun
          have eo := (ebj.trans rk.own.ex).trans el
          exact mk_nr (ev_exf X.cE X.n_taken (ev_var rfl) (el _ _ rk.hx) rfl) fun d H2 e2 hd h2 => qe _ (Option.some.inj hrun).symm d H2 (eo.trans e2) (fresh_back eo hd) h2
        · have hlt := of_decide_eq_false hlt
          rw [if_neg hlt] at hrun
          exact qo s Hdj Hl (Option.some.inj hrun).symm ebj ⟨dx2, F2, B2, S2, bt2, bv2, fs2, bs2, svs2, rk.mono el⟩
end
/-! ### what steps make of a vector: the mathematics -/
def dotR (r v : List Int) : Int := ((r.zip v).map fun e => e.1 * e.2).sum
def notD (l : List (Nat × Int)) : PyData := .list (l.map fun e => .tuple [.int (e.1 : Int), .int e.2])
abbrev BSt := List Int × List (List (Nat × Int))
def putsB (l : List (Nat × Int)) (v : List Int) : List Int := l.foldl (fun v e => v.set e.1 e.2) v
def stepB (b : BSt) : Stp → BSt
  | .put k r => (b.1.set k (dotR r b.1), b.2)
  | .save ps => (b.1, ps.map (fun p => (p, b.1.getD p 0)) :: b.2)
  | .back => match b.2 with
    | [] => b
    | l :: r => (putsB l b.1, r)
/-- what steps give on a vector -/
def behB (steps : List Stp) (v : List Int) : List Int := (steps.foldl stepB (v, [])).1
/-- steps over w places are well formed: how many numbers stand noted behind them -/
def chkS (w : Nat) : Nat → List Stp → Option Nat
  | d, [] => some d
  | d, .put k r :: t => if k < w ∧ r.length = w ∧ (r.all fun x => decide (-9 ≤ x) && decide (x ≤ 9)) = true then chkS w d t else none
  | d, .save ps :: t => if (ps.all fun p => decide (p < w)) = true ∧ ps.length ≤ 1000 then chkS w (d + 1) t else none
  | 0, .back :: _ => none
  | d + 1, .back :: t => chkS w d t
theorem chkS_app (w : Nat) : ∀ (a b : List Stp) (d : Nat), chkS w d (a ++ b) = (chkS w d a).bind fun d' => chkS w d' b
  | [], b, d => by rw [List.nil_append, chkS]; rfl
  | .put k r :: t, b, d => by
    rw [List.cons_append, chkS, chkS]
    split
    · exact chkS_app w t b d
    · rfl
  | .save ps :: t, b, d => by
    rw [List.cons_append, chkS, chkS]
    split
    · exact chkS_app w t b (d + 1)
    · rfl
  | .back :: t, b, 0 => rfl
  | .back :: t, b, d + 1 => by
    rw [List.cons_append, chkS, chkS]
    exact chkS_app w t b d
theorem putsB_len : ∀ (l : List (Nat × Int)) (v : List Int), (putsB l v).length = v.length
  | [], v => rfl
  | e :: r, v => by
    show (putsB r (v.set e.1 e.2)).length = _
    rw [putsB_len r, List.length_set]
theorem stepB_len (b : BSt) (t : Stp) : (stepB b t).1.length = b.1.length := by
  cases t with
  | put k r => exact List.length_set ..
  | save ps => rfl
  | back =>
    rw [stepB]
    split
    · rfl
    · exact putsB_len _ _
/-- the noted places are within, and as many lists are noted as told -/
structure BOk (w : Nat) (b : BSt) (d : Nat) : Prop where
  len : b.1.length = w
  dep : b.2.length = d
  pl : ∀ l ∈ b.2, l.length ≤ 1000 ∧ ∀ e ∈ l, e.1 < w
section
variable {P : Program} {w : World} {K : PySem.W.Frag} {mg : Str → Option Value} {base : Heap} {σ : L2.St} {Hd Hd' H H' H0 : Hp}
/-- [e for x, y in zip(a, b)], the items told one by one -/
theorem el_mapZ {a b : Addr} {xs ys zs : List V} {ta : TA} {te : TE} {j1 j2 n : Nat} {vs : List Nat} (h : EvA ta σ H [.ref a, .ref b]) (hx : SqL K H a xs) (hy : SqL K H b ys) (lx : xs.length = n) (ly : ys.length = n) (lz : zs.length = n) (hn : n ≤ 40000)
    (hw : ∀ x y, wipe (((wipe σ vs).set j1 (some x)).set j2 (some y)) vs = wipe σ vs) (he : ∀ (i : Nat) (x y z : V) H1, Ex H H1 → xs[i]? = some x → ys[i]? = some y → zs[i]? = some z → Ev te (((wipe σ vs).set j1 (some x)).set j2 (some y)) H1 z) :
    EvL (tLc (iZip K ta) (gTup K 2 (gCons (gName j1) (gCons (gName j2) gNil))) tYes te vs) σ H zs := fun H0 e Q q => h H0 e _ fun H1 e1 => ⟨a, b, xs, ys, rfl, ex_l (e.trans e1) hx, ex_l (e.trans e1) hy, fun D nD => by
  refine lc_it (walk_zip (n := n) (xs := xs) (ys := ys) (by omega)) (fun i H' => Ex H1 H' ∧ H' D = some (.lst (zs.take i))) ⟨Ex.new nD, by rw [List.take_zero]; exact upd_same⟩ (fun i H' _ p => ⟨ex_l ((e.trans e1).trans p.1) hx, ex_l ((e.trans e1).trans p.1) hy⟩) (fun i v H' H'' hi p y => ?_) (fun H' p => q D H' (fresh_back e1 nD) (e1.trans p.1) (by rw [p.2, List.take_of_length_le (by omega)]))
  obtain ⟨T, x, z, rfl, nT, rfl, hx', hz'⟩ := y
  have hx' : xs[i]? = some x := hx'
  have hz' : ys[i]? = some z := hz'
  have hil : i < zs.length := by omega
  have eT := p.1.trans (Ex.new (o := .tup [x, z]) nT)
  have hDT := (Ex.new (o := .tup [x, z]) nT) _ _ p.2
  refine ⟨T, [x, z], rfl, .inl (.inl upd_same), rfl, _, _, rfl, _, _, rfl, rfl, hw x z, ?_⟩
  generalize upd H' T (.tup [x, z]) = H2 at eT hDT ⊢
  show te _ _ _
  refine he i x z zs[i] H2 ((e.trans e1).trans eT) hx' hz' (List.getElem?_eq_getElem hil) H2 (Ex.refl _) _ fun H3 e3 => ⟨zs.take i, e3 _ _ hDT, sz_lt (by rw [List.length_take]; omega), (eT.trans e3).mut nD, ?_⟩
  rw [upd_same, List.take_add_one, List.getElem?_eq_getElem hil]; rfl⟩
/-- steps done on a vector, a new list -/
def spBeh (K : PySem.W.Frag) : Sp := fun vs H Q _ => ∃ (S A : Addr) (svs : List V) (steps : List Stp) (v : List Int) (d : Nat), vs = [.ref S, .ref A] ∧ SqL K H S svs ∧ DpAll K H svs (steps.map stpD) ∧ SqL K H A (v.map V.int) ∧ v.length ≤ 100 ∧ steps.length ≤ 90000 ∧ chkS v.length 0 steps = some d ∧
  ∀ D H', H D = none → Ex H H' → H' D = some (.lst ((behB steps v).map V.int)) → Q (.ref D) H'
theorem dpa_split : ∀ {xs : List V} {a b : List PyData}, DpAll K H xs (a ++ b) → ∃ x1 x2, xs = x1 ++ x2 ∧ DpAll K H x1 a ∧ DpAll K H x2 b
  | xs, [], b, h => ⟨[], xs, rfl, .nil, h⟩
  | _, d :: r, b, .cons h1 h2 => by
    obtain ⟨x1, x2, rfl, g1, g2⟩ := dpa_split h2
    exact ⟨_ :: x1, x2, rfl, .cons h1 g1, g2⟩
theorem not_at {l : List (Nat × Int)} {v : V} (h : Dp K H v (notD l)) : ∃ a ts, v = .ref a ∧ SqL K H a ts ∧ ts.length = l.length ∧ ∀ (i : Nat) (e : Nat × Int), l[i]? = some e → ∃ t, ts[i]? = some (.ref t) ∧ SqT K H t [.int (e.1 : Int), .int e.2] := by
  obtain ⟨a, xs, rfl, ha, hx⟩ := dp_lst h
  refine ⟨a, xs, rfl, ha, by rw [dpa_len hx, List.length_map], fun i e he => ?_⟩
  obtain ⟨u, hu, du⟩ := dpa_get hx (show (l.map fun e => PyData.tuple [.int (e.1 : Int), .int e.2])[i]? = some (.tuple [.int (e.1 : Int), .int e.2]) by rw [List.getElem?_map, he]; rfl)
  obtain ⟨t, xs, rfl, ht, hy⟩ := dp_tup du
  obtain ⟨v0, r0, rfl, p0, q0⟩ := dpa1 hy
  obtain ⟨v1, r1, rfl, p1, q1⟩ := dpa1 q0
  rw [dpa0 q1, dp_intv p0, dp_intv p1] at ht
  exact ⟨t, hu, ht⟩
theorem small_mul {a b : Int} (h : -9 ≤ a ∧ a ≤ 9) : -(2 ^ 64) < a ∧ a < 2 ^ 64 := by
  have : (9 : Int) < 2 ^ 64 := by decide
  omega
theorem ok_behind {f : Addr} {fd : FuncData} {k : Nat} (F : Fun K "behind" "behind" sbehind f fd) (z_list : mg "list" = none) (z_sum : mg "sum" = none) (z_zip : mg "zip" = none) : FnOk P w K mg base CX0 (k + 1) f fd ["steps", "vector"] (spBeh K) := by
  have sc := scbehind
  refine F.ok sc (fun vs H Q E h => ?_) (fun cdv A outer s H vs Q E hr h => ?_)
  · obtain ⟨S, V0, svs, steps, v, d, rfl, _⟩ := h
    rfl
  · obtain ⟨S, V0, svs, steps, v, d, rfl, hS, hst, hV, hl, hsl, hchk, q⟩ := h
    refine ⟨_, (pss_cons (ps_set (i := 2) sc.nd rfl (by first | exact Or.inl rfl | exact Or.inr rfl) (pe_callTy call_list_of (by rfl) z_list (by decide +kernel) (pa_cons (pv 1) pa_nil)))
      (pss_cons (ps_set (i := 3) sc.nd rfl (by first | exact Or.inl rfl | exact Or.inr rfl) (pe_lst pa_nil))
      (pss_cons (ps_for PassesOwn.never rfl (pi_list (pv 0)) (pg_name (i := 4) sc.nd rfl (by first | exact Or.inl rfl | exact Or.inr rfl))
      (pss_one (ps_if (pt_cmpR op_eq (pe_ix ix_tup (pv 4) pe_int (fun _ _ => rfl)) pe_str (nomark _))
      (pss_one (ps_asg (pe_callB (cr_sum rfl) (by rfl) z_sum (by decide +kernel) (pa_cons (pe_lc (own := [("factor", 8), ("number", 7)]) (by rfl) sc.nd (pi_zip (by rfl) z_zip (pa_cons (pe_ix ix_tup (pv 4) pe_int (fun _ _ => rfl)) (pa_cons (pv 2) pa_nil))) (blkOk_by (own := [("factor", 8), ("number", 7)]) (N := ["steps", "vector", "numbers", "saved", "step", "noted", "place", "number", "factor"]) (sc := defScope sbehind) (by decide +kernel)) (fun _ _ _ _ _ => (pg_tupK (K := K) (n := 2) rfl rfl (pgs_cons (pg_name (i := 8) sc.nd rfl (by first | exact Or.inl rfl | exact Or.inr rfl)) (pgs_cons (pg_name (i := 7) sc.nd rfl (by first | exact Or.inl rfl | exact Or.inr rfl)) pgs_nil)))) (fun _ _ _ _ _ => pts_nil) (fun _ _ _ _ _ => (pe_op op_mul (pv 8) (pv 7)))) pa_nil)) (pg_sub (pv 2) (pe_ix ix_tup (pv 4) pe_int (fun _ _ => rfl)) set_list)))
      (pss_one (ps_if (pt_cmpR op_eq (pe_ix ix_tup (pv 4) pe_int (fun _ _ => rfl)) pe_str (nomark _))
      (pss_one (ps_expr (pe_bm PySem.F.plainAttrs_list PySem.F.slot_list_append PySem.F.type_list_append mt_append (pv 3) (pa_cons (pe_lc (own := [("place", 6)]) (by rfl) sc.nd (pi_list (pe_ix ix_tup (pv 4) pe_int (fun _ _ => rfl))) (blkOk_by (own := [("place", 6)]) (N := ["steps", "vector", "numbers", "saved", "step", "noted", "place", "number", "factor"]) (sc := defScope sbehind) (by decide +kernel)) (fun _ _ _ _ _ => (pg_name (i := 6) sc.nd rfl (by first | exact Or.inl rfl | exact Or.inr rfl))) (fun _ _ _ _ _ => pts_nil) (fun _ _ _ _ _ => (pe_tup (pa_cons (pv 6) (pa_cons (pe_ix (ix_list : IxR _ (rIxL K)) (pv 2) (pv 6) (fun _ _ => rfl)) pa_nil))))) pa_nil))))
      (pss_cons (ps_set (i := 5) sc.nd rfl (by first | exact Or.inl rfl | exact Or.inr rfl) (pe_bm0 PySem.F.plainAttrs_list PySem.F.slot_list_pop PySem.F.type_list_pop mt_pop (pv 3)))
      (pss_one (ps_for PassesOwn.never rfl (pi_list (pv 5)) (pg_tup (by rfl) (pgs_cons (pg_name (i := 6) sc.nd rfl (by first | exact Or.inl rfl | exact Or.inr rfl)) (pgs_cons (pg_name (i := 7) sc.nd rfl (by first | exact Or.inl rfl | exact Or.inr rfl)) pgs_nil)))
      (pss_one (ps_asg (pv 7) (pg_sub (pv 2) (pv 6) set_list)))))))))))
      (pss_one (ps_ret (pv 2)))))), ?_⟩
    have lsv : svs.length = steps.length := by rw [dpa_len hst, List.length_map]
    refine q_asgL (el_list (ev_var rfl) hV) fun N H1 nN e1 hN => ?_
    refine q_asgL (el_lst ea_nil (by decide)) fun G H2 nG e2 hG => ?_
    have o0 : Own H [(N, .lst (v.map V.int))] H1 := own_one e1 nN hN
    have o1 := Own.new (La := [_]) (Lb := []) o0 e2 nG hG
    refine q_forLn (ev_var rfl) (ex_l (e1.trans e2) hS) (fun i σ' H' => ∃ (x4 x5 x6 x7 x8 : Option V) (b : BSt) (di : Nat) (gs : List V) (Hd : Hp), σ' = [some (.ref S), some (.ref V0), some (.ref N), some (.ref G), x4, x5, x6, x7, x8] ∧ Own Hd [(N, .lst (b.1.map V.int)), (G, .lst gs)] H' ∧ Ex H Hd ∧ DpAll K Hd gs (b.2.reverse.map notD) ∧ b = (steps.take i).foldl stepB (v, []) ∧ (BOk v.length b di ∧ di ≤ i) ∧ chkS v.length di (steps.drop i) = some d)
      (fun H3 e3 => ⟨none, none, none, none, none, (v, []), 0, [], H, rfl, o1.mono e3, Ex.refl _, .nil, by rw [List.take_zero]; rfl, ⟨⟨rfl, rfl, fun _ h => (nomatch h)⟩, Nat.le_refl _⟩, by rw [List.drop_zero]; exact hchk⟩) (fun i σ' H' _ ⟨_, _, _, _, _, _, _, _, _, _, o, e, _⟩ => ex_l (e.trans o.ex) hS) (fun i x σ' H' hx hP => ?_) (fun σ' H' hP => ?_)
    · obtain ⟨x4, x5, x6, x7, x8, b, di, gs, Hd, rfl, o, eHd, hgs, hb, ⟨hbo, hdi⟩, hck⟩ := hP
      have hi : i < steps.length := by have := (List.getElem?_eq_some_iff.mp hx).1; omega
      have hget := List.getElem?_eq_getElem hi
      rw [List.drop_eq_getElem_cons hi] at hck
      have htake : (steps.take (i + 1)).foldl stepB (v, []) = stepB b steps[i] := by rw [List.take_add_one, hget, Option.toList_some, List.foldl_append, ← hb]; rfl
      obtain ⟨d1, hd1, dx⟩ := dpa_at2 hst hx
      rw [List.getElem?_map, hget] at hd1
      obtain rfl := Option.some.inj hd1
      generalize steps[i] = st at hck htake dx
      have lgs : gs.length = b.2.length := by rw [dpa_len hgs, List.length_map, List.length_reverse]
      dsimp only
      cases st with
      | put kk r =>
        rw [stpD] at dx
        obtain ⟨t, va, vb, rfl, ht, pa, pb⟩ := items3 dx
        rw [dp_intv pa] at ht
        obtain ⟨ra, rfl, hra⟩ := dp_li pb
        rw [chkS] at hck
        split at hck
        · rename_i hok
          obtain ⟨hkw, hrl, hrs⟩ := hok
          have eh := eHd.trans o.ex
          have ht2 := ex_t eh ht
          refine s_if (b := true) (et_is (et_test (ev_op (ev_at (j := 0) (ev_var rfl) ht2 rfl) ev_c (rv_eq rfl))) (by decide +kernel)) (fun _ H3 e3 => ?_) (fun h => (nomatch h))
          have o3 := o.mono e3
          have hN3 := o3.get (List.mem_cons_self ..)
          have lb := hbo.len
          refine s_setL (v := .int (dotR r b.1)) (j := kk) hN3 (ev_sumN (ns := (r.zip b.1).map fun e => e.1 * e.2) (el_mapZ (n := v.length) (xs := r.map V.int) (ys := b.1.map V.int) (ea_cons (ev_at (j := 2) (ev_var rfl) (ex_t (eh.trans e3) ht) rfl) (ea_cons (ev_var rfl) ea_nil)) (ex_l (eh.trans e3) hra) (sq_of hN3) (by rw [List.length_map]; exact hrl) (by rw [List.length_map]; exact lb) (by rw [List.length_map, List.length_map, List.length_zip, hrl, lb, Nat.min_self]) (by omega) (fun _ _ => rfl) (fun j x y z H4 e4 hxj hyj hzj => ?_))) (ev_var rfl) (ev_at (j := 1) (ev_var rfl) (ex_t (eh.trans e3) ht) rfl) (by rw [List.length_map, lb]; exact hkw) fun H4 e4 => ?_
          · rw [List.getElem?_map, Option.map_eq_some_iff] at hxj hyj
            obtain ⟨rj, hrj, rfl⟩ := hxj
            obtain ⟨bj, hbj, rfl⟩ := hyj
            rw [List.getElem?_map, List.getElem?_map, List.getElem?_zip_eq_some.mpr (show r[j]? = some (rj, bj).1 ∧ b.1[j]? = some (rj, bj).2 from ⟨hrj, hbj⟩)] at hzj
            cases hzj
            have hsm := List.all_eq_true.mp hrs rj (List.mem_of_getElem? hrj)
            rw [Bool.and_eq_true] at hsm
            exact ev_op (ev_var rfl) (ev_var rfl) (rv_I (.inl (small_mul (b := bj) ⟨of_decide_eq_true hsm.1, of_decide_eq_true hsm.2⟩)))
          · have o5 := Own.upd (La := []) (o3.mono e4) (.lst ((b.1.map V.int).set kk (.int (dotR r b.1))))
            refine ⟨_, _, _, _, _, stepB b (.put kk r), di, gs, Hd, rfl, ?_, eHd, hgs, htake.symm, ⟨⟨(stepB_len _ _).trans lb, hbo.dep, hbo.pl⟩, by omega⟩, hck⟩
            rw [stepB, List.map_set]
            exact o5
        · cases hck
      | save ps =>
        rw [stpD] at dx
        obtain ⟨t, va, rfl, ht, pa⟩ := items2 dx
        obtain ⟨ra, rfl, hra⟩ := dp_li pa
        rw [← nat_ints] at hra
        rw [chkS] at hck
        split at hck
        · rename_i hok
          obtain ⟨hps, hpl⟩ := hok
          have eh := eHd.trans o.ex
          have ht2 := ex_t eh ht
          refine s_if (b := false) (et_is (et_test (ev_op (ev_at (j := 0) (ev_var rfl) ht2 rfl) ev_c (rv_eq rfl))) (by decide +kernel)) (fun h => (nomatch h)) (fun _ H3 e3 => ?_)
          have ht3 := ex_t e3 ht2
          refine s_if (b := true) (et_is (et_test (ev_op (ev_at (j := 0) (ev_var rfl) ht3 rfl) ev_c (rv_eq rfl))) (by decide +kernel)) (fun _ H4 e4 => ?_) (fun h => (nomatch h))
          have e34 := e3.trans e4
          have o4 := o.mono e34
          have lb := hbo.len
          refine ⟨.ref G, rfl, .inl ⟨rfl, _, sq_of (o4.g2)⟩, ?_⟩
          refine ⟨.ref t, rfl, t, _, 1, .ref ra, rfl, rfl, ex_t e4 ht3, atI_nat (j := 1) rfl, ra, rfl, ⟨_, ex_l (eh.trans e34) hra⟩, fun D nD => ?_⟩
          have o5 := Own.new (La := [_, _]) (Lb := []) o4 (Ex.new (o := .lst []) nD) nD upd_same
          refine lc_list (xs := ps.map nV) (fun j H' => ∃ (ys : List V) (Hd' : Hp), Own Hd' [(N, .lst (b.1.map V.int)), (G, .lst gs), (D, .lst ys)] H' ∧ Ex Hd Hd' ∧ DpAll K Hd' ys ((ps.take j).map fun p : Nat => PyData.tuple [.int (p : Int), .int (b.1.getD p 0)]))
            ⟨[], Hd, o5, Ex.refl _, .nil⟩ (fun j H' _ ⟨_, _, o, e, _⟩ => ex_l ((eHd.trans e).trans o.ex) hra) (fun j y H' hy hP => ?_) (fun H' hP => ?_)
          · obtain ⟨ys, Hd2, o6, eg6, hys⟩ := hP
            rw [List.getElem?_map, Option.map_eq_some_iff] at hy
            obtain ⟨p, hp, rfl⟩ := hy
            have hpw : p < v.length := of_decide_eq_true (List.all_eq_true.mp hps p (List.mem_of_getElem? hp))
            have hbp : b.1[p]? = some (b.1.getD p 0) := by rw [List.getD_eq_getElem?_getD, List.getElem?_eq_getElem (by omega)]; rfl
            show wipe ((wipe _ _).set 6 (some (nV p))) _ = wipe _ _ ∧ _
            refine ⟨rfl, nV p, rfl, .ref N, rfl, nV p, rfl, N, _, (p : Int), .int (b.1.getD p 0), rfl, rfl, sq_of (o6.get (List.mem_cons_self ..)), atI_nat (by rw [List.getElem?_map, hbp]; rfl), by show 2 ≤ sizeLine; decide, fun T nT => ?_⟩
            obtain ⟨o7, eg7⟩ := o6.grow (Ex.new (o := .tup [nV p, .int (b.1.getD p 0)]) nT) nT upd_same
            have lys : ys.length = (ps.take j).length := by rw [dpa_len hys, List.length_map]
            refine ⟨ys, o7.g3, sz_lt (by rw [lys, List.length_take]; omega), ys ++ [.ref T], _, Own.upd (La := [_, _]) o7 (.lst (ys ++ [.ref T])), eg6.trans eg7, ?_⟩
            rw [List.take_add_one, hp, Option.toList_some, List.map_append]
            exact dpa_cat (dpa_ex eg7 _ _ hys) (.cons (.tup (st_of upd_same) (.cons (.int _) (.cons (.int _) .nil))) .nil)
          · obtain ⟨ys, Hd2, o6, eg6, hys⟩ := hP
            rw [List.take_of_length_le (by rw [List.length_map]; exact Nat.le_refl _)] at hys
            obtain ⟨o7, eg7⟩ := Own.rest (La := [_, _]) (Lb := []) o6
            have hlg : gs.length < 100000 := by have := hbo.dep; omega
            refine ⟨G, gs, .ref D, rfl, rfl, o7.g2, sz_lt (by omega), ?_⟩
            have o8 := Own.upd (La := [_]) o7 (.lst (gs ++ [.ref D]))
            refine ⟨_, _, _, _, _, stepB b (.save ps), di + 1, gs ++ [.ref D], _, rfl, o8, (eHd.trans eg6).trans eg7, ?_, htake.symm, ⟨⟨lb, by show (_ :: b.2).length = _; rw [List.length_cons, hbo.dep], fun l hl => ?_⟩, by omega⟩, hck⟩
            · show DpAll K _ (gs ++ [V.ref D]) (((ps.map fun p => (p, b.1.getD p 0)) :: b.2).reverse.map notD)
              rw [List.reverse_cons, List.map_append]
              refine dpa_cat (dpa_ex (eg6.trans eg7) _ _ hgs) (.cons ?_ .nil)
              rw [notD, List.map_map]
              exact .lst (sq_of upd_same) (dpa_ex eg7 _ _ hys)
            · rcases List.mem_cons.mp hl with rfl | hl
              · refine ⟨by rw [List.length_map]; exact hpl, fun e he => ?_⟩
                obtain ⟨p, hp, rfl⟩ := List.mem_map.mp he
                exact of_decide_eq_true (List.all_eq_true.mp hps p hp)
              · exact hbo.pl l hl
        · cases hck
      | back =>
        rw [stpD] at dx
        obtain ⟨t, xs, rfl, ht, hxs⟩ := dp_tup dx
        obtain ⟨v0, r0, rfl, p0, q0⟩ := dpa1 hxs
        rw [dpa0 q0, dp_str p0] at ht
        have eh := eHd.trans o.ex
        have ht2 := ex_t eh ht
        refine s_if (b := false) (et_is (et_test (ev_op (ev_at (j := 0) (ev_var rfl) ht2 rfl) ev_c (rv_eq rfl))) (by decide +kernel)) (fun h => (nomatch h)) (fun _ H3 e3 => ?_)
        have ht3 := ex_t e3 ht2
        refine s_if (b := false) (et_is (et_test (ev_op (ev_at (j := 0) (ev_var rfl) ht3 rfl) ev_c (rv_eq rfl))) (by decide +kernel)) (fun h => (nomatch h)) (fun _ H4 e4 => ?_)
        have o4 := o.mono (e3.trans e4)
        cases di with
        | zero => rw [chkS] at hck; cases hck
        | succ di =>
          rw [chkS] at hck
          obtain ⟨l, rest, hbl⟩ : ∃ l rest, b.2 = l :: rest := by
            cases h : b.2 with
            | nil => have := hbo.dep; rw [h] at this; cases this
            | cons a c => exact ⟨a, c, rfl⟩
          rw [hbl, List.reverse_cons, List.map_append] at hgs
          obtain ⟨g1, g2, rfl, hg1, hg2⟩ := dpa_split hgs
          obtain ⟨u, r2, rfl, pu, qu⟩ := dpa1 hg2
          obtain rfl := dpa0 qu
          have hpl := hbo.pl l (by rw [hbl]; exact List.mem_cons_self ..)
          obtain ⟨na, ts, rfl, hna, hts, hta⟩ := not_at pu
          refine ⟨.ref G, rfl, .inl ⟨rfl, _, sq_of (o4.g2)⟩, G, _, .ref na, rfl, rfl, o4.g2, by simp, ?_⟩
          rw [List.dropLast_concat]
          have o5 := Own.upd (La := [_]) o4 (.lst g1)
          generalize upd H4 G (.lst g1) = H5 at o5 ⊢
          dsimp only
          refine s_forL (ev_var rfl) (ex_l o5.ex hna) (fun j σ' H' => ∃ (x6 x7 : Option V), σ' = [some (.ref S), some (.ref V0), some (.ref N), some (.ref G), some (.ref t), some (.ref na), x6, x7, x8] ∧ Own Hd [(N, .lst ((putsB (l.take j) b.1).map V.int)), (G, .lst g1)] H')
            (fun H6 e6 => ⟨x6, x7, rfl, o5.mono e6⟩) (fun j σ' H' _ ⟨_, _, _, o⟩ => ex_l o.ex hna) (fun j y σ' H' hy hP => ?_) (fun σ' H' hP => ?_)
          · obtain ⟨y6, y7, rfl, o6⟩ := hP
            have hj : j < l.length := by have := (List.getElem?_eq_some_iff.mp hy).1; omega
            have hgj := List.getElem?_eq_getElem hj
            obtain ⟨tt, htt, hT⟩ := hta j _ hgj
            have hyy : some y = some (V.ref tt) := hy.symm.trans htt
            cases hyy
            have hpw := hpl.2 _ (List.getElem_mem hj)
            refine ⟨tt, _, rfl, ex_t o6.ex hT, rfl, _, _, rfl, _, _, rfl, rfl, ?_⟩
            dsimp only
            refine s_setL (j := l[j].1) (o6.get (List.mem_cons_self ..)) (ev_var rfl) (ev_var rfl) (ev_var rfl) (by rw [List.length_map, putsB_len, hbo.len]; exact hpw) fun H7 e7 => ⟨_, _, rfl, ?_⟩
            have o7 := Own.upd (La := []) (o6.mono e7) (.lst (((putsB (l.take j) b.1).map V.int).set l[j].1 (.int l[j].2)))
            have hput : putsB (l.take (j + 1)) b.1 = (putsB (l.take j) b.1).set l[j].1 l[j].2 := by rw [putsB, List.take_add_one, hgj, Option.toList_some, List.foldl_append]; rfl
            rw [hput, List.map_set]
            exact o7
          · obtain ⟨y6, y7, rfl, o6⟩ := hP
            rw [List.take_of_length_le (by omega)] at o6
            have hsb : stepB b .back = (putsB l b.1, rest) := by rw [stepB, hbl]
            refine ⟨_, _, _, _, _, (putsB l b.1, rest), di, g1, Hd, rfl, o6, eHd, hg1, by rw [htake, hsb], ⟨⟨(putsB_len _ _).trans hbo.len, ?_, fun l' hl' => hbo.pl l' (by rw [hbl]; exact List.mem_cons_of_mem _ hl')⟩, by omega⟩, hck⟩
            have := hbo.dep
            rw [hbl, List.length_cons] at this
            show rest.length = di
            omega
    · obtain ⟨x4, x5, x6, x7, x8, b, di, gs, Hd, rfl, o, eHd, hgs, hb, ⟨hbo, hdi⟩, hck⟩ := hP
      rw [List.take_of_length_le (by omega)] at hb
      refine s_ret (ev_var rfl) fun H3 e3 => q N H3 nN ((eHd.trans o.ex).trans e3) ?_
      rw [behB, ← hb]
      exact e3 _ _ (o.get (List.mem_cons_self ..))
end
/-! ### the steps of an execution are well formed -/
def depF (f : Fr) : Nat := if f.w = .keep ∨ (f.w = .body ∧ f.nxt.isSome = true) then 1 else 0
def dep : List Fr → Nat
  | [] => 0
  | f :: r => depF f + dep r
def botN : List Fr → Prop
  | [] => True
  | f :: r => (r = [] → f.nxt = none) ∧ botN r
structure StW (c : Nat) (s : Cf) : Prop where
  chk : chkS (c + 2) 0 s.steps = some (dep s.frs)
  bot : botN s.frs
theorem chk_put {w d k : Nat} {st : List Stp} {r : List Int} (h : chkS w 0 st = some d) (hk : k < w) (hl : r.length = w) (hr : ∀ x ∈ r, -9 ≤ x ∧ x ≤ 9) : chkS w 0 (st ++ [.put k r]) = some d := by
  rw [chkS_app, h]
  show chkS w d [.put k r] = _
  rw [chkS, if_pos ⟨hk, hl, List.all_eq_true.mpr fun x hx => by rw [decide_eq_true (hr x hx).1, decide_eq_true (hr x hx).2]; rfl⟩, chkS]
theorem chk_save {w d : Nat} {st : List Stp} {ps : List Nat} (h : chkS w 0 st = some d) (hp : ∀ p ∈ ps, p < w) (hl : ps.length ≤ 1000) : chkS w 0 (st ++ [.save ps]) = some (d + 1) := by
  rw [chkS_app, h]
  show chkS w d [.save ps] = _
  rw [chkS, if_pos ⟨List.all_eq_true.mpr fun p hp' => decide_eq_true (hp p hp'), hl⟩, chkS]
theorem chk_back {w d : Nat} {st : List Stp} (h : chkS w 0 st = some (d + 1)) : chkS w 0 (st ++ [.back]) = some d := by
  rw [chkS_app, h]
  show chkS w (d + 1) [.back] = _
  rw [chkS, chkS]
theorem chk_cls {w : Nat} {f : Fr} {r : List Fr} {st : List Stp} (h : chkS w 0 st = some (dep (f :: r))) (hb : f.w ≠ .body) : chkS w 0 (clsS f st) = some (dep r) := by
  rw [dep, depF] at h
  rw [clsS]
  by_cases hk : f.w = .keep
  · rw [if_pos hk]
    rw [if_pos (.inl hk), Nat.add_comm 1] at h
    exact chk_back h
  · rw [if_neg hk]
    rw [if_neg fun z => z.elim hk fun y => hb y.1, Nat.zero_add] at h
    exact h
theorem end_w {c m way : Nat} {s : Cf} : ∀ (l : List Fr) (st : List Stp), stkOk c m l → l ≠ [] → botN l → chkS (c + 2) 0 st = some (dep l) → StW c (endL way s l st)
  | [], _, _, h, _, _ => absurd rfl h
  | f :: r, st, h, _, hbot, hc => by
    rw [stkOk] at h
    rw [botN] at hbot
    rw [endL]
    by_cases hb : f.w = .body
    · rw [if_pos hb]
      by_cases hr : r = []
      · rw [if_pos hr]
        subst hr
        refine ⟨?_, by show botN []; rw [botN]; trivial⟩
        have hn := hbot.1 rfl
        rw [dep, depF, if_neg fun z => z.elim (fun y => by rw [hb] at y; cases y) fun y => by rw [hn] at y; cases y.2] at hc
        exact hc
      · rw [if_neg hr]
        refine ⟨?_, ?_⟩
        · rw [dep, depF, if_pos (.inr ⟨hb, h.2.2.1 hb hr⟩), Nat.add_comm 1] at hc
          show chkS (c + 2) 0 (st ++ [.back]) = some (dep (_ :: r))
          rw [dep, depF, if_neg fun z => z.elim (fun y => (nomatch y)) fun y => (nomatch y.1), Nat.zero_add]
          exact chk_back hc
        · show botN (_ :: r)
          rw [botN]
          exact ⟨fun z => absurd z hr, hbot.2⟩
    · rw [if_neg hb]
      exact end_w r (clsS f st) h.2.2.2 (fun z => hb (h.2.1 z)) hbot.2 (chk_cls hc hb)
section
variable {c m : Nat} {bits : List Nat} {bo : List (List Stm)} {s s' : Cf}
theorem opn_w {f : Fr} (hs : s.frs ≠ []) (h : StW c s) (hd : depF f = 0) : StW c (opnC s f) := by
  refine ⟨?_, ?_⟩
  · show chkS (c + 2) 0 s.steps = some (dep (f :: s.frs))
    rw [dep, hd, Nat.zero_add]
    exact h.chk
  · show botN (f :: s.frs)
    rw [botN]
    exact ⟨fun z => absurd z hs, h.bot⟩
theorem exc_w {st : Stm} {lv : Nat} (h : StOk c bits m s) (hw : StW c s) (hs : s.frs ≠ []) (hc : c ≤ 3) (hst : okS c m st lv) (he : excC c bits bo s st = .ok s') : StW c s' := by
  have hR : ∀ {r : List Int}, okR c r → r.length = c + 2 ∧ ∀ x ∈ r, -9 ≤ x ∧ x ≤ 9 := fun h => h
  cases st with
  | set k r =>
    rw [okS] at hst
    cases he
    exact ⟨chk_put hw.chk (by omega) (hR hst.2).1 (hR hst.2).2, hw.bot⟩
  | carry r =>
    rw [okS] at hst
    cases he
    exact ⟨chk_put hw.chk (by omega) (hR hst).1 (hR hst).2, hw.bot⟩
  | keep cs b =>
    rw [okS] at hst
    cases he
    refine ⟨?_, ?_⟩
    · show chkS (c + 2) 0 (s.steps ++ [.save (cs.map (· + 1) ++ [c + 1])]) = some (dep (_ :: s.frs))
      rw [dep, depF, if_pos (.inl rfl), Nat.add_comm 1]
      refine chk_save hw.chk (fun p hp => ?_) (by rw [List.length_append, List.length_map, List.length_singleton]; have := asc_len hst.2.1; omega)
      rcases List.mem_append.mp hp with hp | hp
      · obtain ⟨k, hk, rfl⟩ := List.mem_map.mp hp
        have := hst.2.1.2 k hk
        omega
      · rw [List.mem_singleton.mp hp]; omega
    · show botN (_ :: s.frs)
      rw [botN]
      exact ⟨fun z => absurd z hs, hw.bot⟩
  | either a b =>
    rw [excC] at he
    cases hb : bitC bits s with
    | error e => rw [hb] at he; cases he
    | ok vs =>
      obtain ⟨v, s1⟩ := vs
      rw [hb] at he
      cases he
      obtain ⟨_, h2, h3, _⟩ := bit_ok h hb
      exact opn_w (by rw [h2]; exact hs) ⟨by rw [h2, h3]; exact hw.chk, by rw [h2]; exact hw.bot⟩ rfl
  | again b =>
    cases he
    exact opn_w hs hw rfl
  | call p r a b =>
    rw [okS] at hst
    rw [excC, bgnC] at he
    split at he
    · cases he
    · cases he
      refine ⟨?_, ?_⟩
      · show chkS (c + 2) 0 (s.steps ++ [.save [c + 1], .put (c + 1) r]) = some (dep (_ :: s.frs))
        rw [dep, depF, if_pos (.inr ⟨rfl, rfl⟩), Nat.add_comm 1, show s.steps ++ [Stp.save [c + 1], Stp.put (c + 1) r] = (s.steps ++ [.save [c + 1]]) ++ [.put (c + 1) r] by rw [List.append_assoc]; rfl]
        exact chk_put (chk_save hw.chk (fun p hp => by rw [List.mem_singleton.mp hp]; omega) (by show 1 ≤ 1000; decide)) (by omega) (hR hst.2.2.1).1 (hR hst.2.2.1).2
      · show botN (_ :: s.frs)
        rw [botN]
        exact ⟨fun z => absurd z hs, hw.bot⟩
  | fin w =>
    cases he
    exact end_w s.frs s.steps h.stk hs hw.bot hw.chk
theorem cls_w {f : Fr} {r : List Fr} (hw : StW c s) (hs : s.frs = f :: r) (hb : f.w ≠ .body) : StW c (clsC s) := by
  have h1 := hw.chk
  have h2 := hw.bot
  rw [hs] at h1
  rw [hs, botN] at h2
  rw [clsC, hs]
  exact ⟨chk_cls h1 hb, h2.2⟩
theorem set_pos {f : Fr} {r : List Fr} {n : Nat} (hw : StW c s) (hs : s.frs = f :: r) : StW c { s with frs := { f with pos := n } :: r } := by
  have h1 := hw.chk
  have h2 := hw.bot
  rw [hs] at h1 h2
  exact ⟨h1, h2⟩
theorem adv_w (h : StOk c bits m s) (hw : StW c s) (hc : c ≤ 3) (he : advC c bits bo s = .ok s') : StW c s' := by
  rw [advC] at he
  cases hs : s.frs with
  | nil =>
    rw [hs] at he
    cases he
    exact hw
  | cons f r =>
    rw [hs] at he
    dsimp only at he
    by_cases hp : f.pos = f.blk.length
    · rw [if_pos hp, lveC] at he
      by_cases hb : f.w = .body
      · rw [if_pos hb] at he
        cases he
        exact end_w s.frs s.steps h.stk (by rw [hs]; simp) hw.bot hw.chk
      · rw [if_neg hb] at he
        by_cases ha : f.w = .again
        · rw [if_pos ha, lveA] at he
          cases hbc : bitC bits s with
          | error e => rw [hbc] at he; cases he
          | ok vs =>
            obtain ⟨v, s1⟩ := vs
            rw [hbc] at he
            obtain ⟨_, h2, h3, _⟩ := bit_ok h hbc
            have hw1 : StW c s1 := ⟨by rw [h2, h3]; exact hw.chk, by rw [h2]; exact hw.bot⟩
            dsimp only at he
            split at he
            · cases he
              exact set_pos hw1 (h2.trans hs)
            · cases he
              exact cls_w hw1 (h2.trans hs) hb
        · rw [if_neg ha] at he
          cases he
          exact cls_w hw hs hb
    · rw [if_neg hp] at he
      have k1 := h.stk
      rw [hs, stkOk] at k1
      have hlt : f.pos < f.blk.length := by have := k1.1.2.2.2; omega
      have hn := next_ok h hs hlt
      obtain ⟨lv, hlv⟩ := k1.1.1
      have hg := List.getElem?_eq_getElem hlt
      rw [hg] at he
      dsimp only at he
      exact exc_w hn (set_pos hw hs) (by simp) hc (okL_get hlv hg) he
theorem go_w (hm : bo.length = m) (hbo : ∀ b ∈ bo, ∃ lv, okL c m b lv) (hc : c ≤ 3) : ∀ (n : Nat) {s s' : Cf}, StOk c bits m s → StW c s → goC c bits bo n s = some (.ok s') → StOk c bits m s' ∧ StW c s' ∧ s'.frs = [] ∧ sz s' ≤ sz s + 3 * n
  | 0, s, s', h, hw, hg => by
    rw [goC] at hg
    split at hg
    · rename_i hz
      cases hg
      exact ⟨h, hw, hz, by omega⟩
    · cases hg
  | n + 1, s, s', h, hw, hg => by
    rw [goC] at hg
    split at hg
    · rename_i hz
      cases hg
      exact ⟨h, hw, hz, by omega⟩
    · cases ha : advC c bits bo s with
      | error e => rw [ha] at hg; cases hg
      | ok s1 =>
        rw [ha] at hg
        obtain ⟨h1, h2⟩ := adv_ok h hm hbo ha
        obtain ⟨k1, k2, k3, k4⟩ := go_w hm hbo hc n h1 (adv_w h hw hc ha) hg
        exact ⟨k1, k2, k3, by omega⟩
end
def cbL : Nat → List PyData → Option Int
  | _, [] => none
  | i, d :: r => if btw 0 1 d = true then cbL (i + 1) r else some (i : Int)
/-- the first item that is no bit -/
def cbD : PyData → Option Int
  | .list ds => cbL 0 ds
  | _ => some (-1)
theorem cbL_none : ∀ (ds : List PyData) (i : Nat), cbL i ds = none → ∃ bits : List Nat, ds = (bits.map (Nat.cast : Nat → Int)).map PyData.int ∧ ∀ b ∈ bits, b ≤ 1
  | [], _, _ => ⟨[], rfl, fun _ h => (nomatch h)⟩
  | d :: r, i, h => by
    rw [cbL] at h
    split at h
    · rename_i hb
      obtain ⟨bs, rfl, hbs⟩ := cbL_none r (i + 1) h
      cases d with
      | int j =>
        rw [btw, Bool.and_eq_true] at hb
        have h1 := of_decide_eq_true hb.1
        have h2 := of_decide_eq_true hb.2
        refine ⟨j.toNat :: bs, by rw [List.map_cons, List.map_cons, Int.toNat_of_nonneg h1], fun b hb => ?_⟩
        rcases List.mem_cons.mp hb with rfl | hb
        · omega
        · exact hbs b hb
      | _ => cases hb
    · cases h
theorem cbD_none {d : PyData} (h : cbD d = none) : ∃ bits : List Nat, d = LI (bits.map (Nat.cast : Nat → Int)) ∧ ∀ b ∈ bits, b ≤ 1 := by
  cases d with
  | list ds =>
    obtain ⟨bits, rfl, hb⟩ := cbL_none ds 0 h
    exact ⟨bits, rfl, hb⟩
  | _ => cases h
section
variable {P : Program} {w : World} {K : PySem.W.Frag} {mg : Str → Option Value} {base : Heap} {σ : L2.St} {Hd Hd' H H' H0 : Hp}
variable {CB CE CF CN x dx F B S bt : Addr}
/-- data, or a dict without keys -/
def DvD (K : PySem.W.Frag) (H : Hp) (v : V) (d : PyData) : Prop := Dp K H v d ∨ (d = .dict [] ∧ ∃ a, v = .ref a ∧ H a = some (.dK []))
theorem dvd_ex {v : V} {d : PyData} (e : Ex H H') (h : DvD K H v d) : DvD K H' v d := h.imp (dp_ex e _ _) fun ⟨a, b, c, hh⟩ => ⟨a, b, c, e _ _ hh⟩
theorem dvd_li {v : V} {l : List PyData} (h : DvD K H v (.list l)) : Dp K H v (.list l) := h.elim id fun z => (nomatch z.1)
theorem kd_list : kitB "dict" "list" = some false := by
  rw [(kit_all "dict" (by simp)).2.2.2.1]
  decide +kernel
theorem ev_isiDL {te : TE} {a : Addr} (ha : H a = some (.dK [])) (h : Ev te σ H (.ref a)) : Ev (tCB (rIsi K) (tCons te (tCons (tC (.ty "list")) tNil))) σ H (.bl false) :=
  ev_cb (ea_cons h (ea_cons ev_c ea_nil)) fun H1 e Q q => ⟨.ref a, .ty "list", _, _, false, rfl, .ty "list", .base (.dK (e _ _ ha)), kit_ty kd_list, q H1 (Ex.refl H1)⟩
def spCB (K : PySem.W.Frag) (CN : Addr) : Sp := fun vs H Q E => ∃ (v : V) (d : PyData), vs = [v] ∧ DvD K H v d ∧ (∀ i, cbD d = some i → ErrAt CN H i E) ∧ ∀ H', Ex H H' → cbD d = none → Q .non H'
theorem ok_check_bits {f fN : Addr} {fd fdN : FuncData} {k : Nat} (Fm : Fun K "check_bits" "check_bits" scheck_bits f fd) (z_isinstance : mg "isinstance" = none) (z_list : mg "list" = none) (z_enumerate : mg "enumerate" = none) (Cis_bit : Cal P w K mg base 3 "is_bit" (spBit K) [])
    (TN : OexC K CN) (iN : PySem.W.findIn K (.ref CN) "__init__" = some (some (.ref fN))) (tN : PySem.W.typeIn K (.ref fN) = some (.type "function")) (FN : FnOk P w K mg base CX0 16 fN fdN ["self", "index"] (spNR K CN)) (bN : Binds K fdN ["self", "index"] []) (gN : mg "NoRun" = some (.ref CN)) (hk : 17 ≤ k) :
    FnOk P w K mg base (L2.CX P w) (k + 1) f fd ["bits"] (spCB K CN) := by
  have sc := sccheck_bits
  refine Fm.okX sc (fun vs H Q E h => ?_) (fun cdv A outer s H vs Q E hr h => ?_)
  · obtain ⟨v, d, rfl, _⟩ := h
    rfl
  · obtain ⟨v, d, rfl, hd, qe, qo⟩ := h
    refine ⟨_, (pss_cons (ps_if (pt_not (pt_val (pe_callB call_isi (by rfl) z_isinstance (by decide +kernel) (pa_cons (pv 0) (pa_cons (pe_bltn (v := .ty "list") (by rfl) z_list (by decide +kernel) rfl) pa_nil)))))
      (pss_one (ps_raise rfl (takes_of rfl rfl rfl rfl) (pmk_oex TN iN tN FN (hr.mono (by omega)) bN .nil pass0 (by rfl) gN (pa_cons (pe_un un_neg pe_int) pa_nil))))
      pss_nil)
      (pss_one (ps_for (passes_of rfl) rfl (pi_enum (by rfl) z_enumerate (pa_cons (pv 0) pa_nil)) (pg_tup (by rfl) (pgs_cons (pg_name (i := 1) sc.nd rfl (by first | exact Or.inl rfl | exact Or.inr rfl)) (pgs_cons (pg_name (i := 2) sc.nd rfl (by first | exact Or.inl rfl | exact Or.inr rfl)) pgs_nil)))
      (pss_one (ps_if (pt_not (pt_val (pe_c Cis_bit hr (by omega) (by rfl) (pa_cons (pv 2) pa_nil))))
      (pss_one (ps_raise rfl (takes_of rfl rfl rfl rfl) (pmk_oex TN iN tN FN (hr.mono (by omega)) bN .nil pass0 (by rfl) gN (pa_cons (pv 1) pa_nil))))
      pss_nil))))), ?_⟩
    rcases hd with hd | ⟨rfl, a, rfl, ha⟩
    case inr =>
      refine q_when (b := true) (et_is (et_not (et_B (ev_isiDL ha (ev_var rfl)))) rfl) (fun hb H1 e1 => ?_) (fun z => (nomatch z))
      exact mk_nr (i := -1) (ev_un ev_c ru_neg) fun d' H2 e2 hd' h2 => qe _ rfl d' H2 (e1.trans e2) (fresh_back e1 hd') h2
    refine q_when (et_not (et_B (ev_isi hd (ev_var rfl) (kitB_isa d).2.2.2.1))) (fun hb H1 e1 => ?_) (fun hb H1 e1 => ?_)
    · have hz : cbD d = some (-1) := by
        rw [isa_list] at hb
        cases d <;> first | rfl | cases hb
      exact mk_nr (i := -1) (ev_un ev_c ru_neg) fun d' H2 e2 hd' h2 => qe _ hz d' H2 (e1.trans e2) (fresh_back e1 hd') h2
    · have hl : isa d "list" = true := by simpa using hb
      obtain ⟨a, xs, ds, rfl, rfl, ha, hx⟩ := isa_list_t hd hl
      have lxs := dpa_len hx
      refine ⟨.ref a, rfl, a, xs, rfl, ex_l e1 ha, ?_⟩
      refine for_it walk_enum (fun i σ' H' => ∃ x1 x2 : Option V, σ' = [some (.ref a), x1, x2] ∧ Ex H H' ∧ cbD (.list ds) = cbL i (ds.drop i)) ⟨none, none, rfl, e1, by rw [List.drop_zero]; rfl⟩ (fun i σ' H' _ ⟨_, _, _, e, _⟩ => ex_l e ha) (fun i y σ' H' H'' hi hP Y => ?_) (fun σ' H' hP => ?_)
      · obtain ⟨x1, x2, rfl, e, hcb⟩ := hP
        obtain ⟨T, y1, y2, rfl, nT, rfl, hy1, hy2⟩ := Y
        cases hy1
        have hid : i < ds.length := by omega
        have hgd := List.getElem?_eq_getElem hid
        rw [List.drop_eq_getElem_cons hid, cbL] at hcb
        obtain ⟨d1, hd1, dy⟩ := dpa_at2 hx hy2
        rw [hgd] at hd1
        obtain rfl := Option.some.inj hd1
        generalize ds[i] = d1 at hcb dy
        have eT := e.trans (Ex.new (o := .tup [.int (i : Nat), y2]) nT)
        refine ⟨T, _, rfl, st_of upd_same, rfl, _, _, rfl, _, _, rfl, rfl, ?_⟩
        generalize upd H' T (.tup [.int (i : Nat), y2]) = H3 at eT ⊢
        dsimp only
        refine s_when (et_not (et_B (ev_spBit (ev_var rfl) (dp_ex eT _ _ dy)))) (fun hb2 H4 e4 => ?_) (fun hb2 H4 e4 => ?_)
        · have hb2 : btw 0 1 d1 = false := by simpa using hb2
          rw [hb2, if_neg Bool.false_ne_true] at hcb
          have eo := eT.trans e4
          exact mk_nr (i := (i : Int)) (ev_var rfl) fun d' H2 e2 hd' h2 => qe _ hcb d' H2 (eo.trans e2) (fresh_back eo hd') h2
        · have hb2 : btw 0 1 d1 = true := by simpa using hb2
          rw [hb2, if_pos rfl] at hcb
          exact ⟨_, _, rfl, eT.trans e4, hcb⟩
      · obtain ⟨x1, x2, rfl, e, hcb⟩ := hP
        rw [List.drop_of_length_le (by omega), cbL] at hcb
        exact qo _ e hcb
/-! ### executed -/
/-- what an execution of a book's procedure gives -/
structure Run1 (c : Nat) (bo : List (List Stm)) (p : Nat) (bits : List Nat) (r : Except Int Cf) : Prop where
  b1 : ∀ b ∈ bits, b ≤ 1
  bl : bits.length ≤ 10000
  go : ∃ n, n ≤ 18000 ∧ runC c bits bo p n = some r
def spExd (K : PySem.W.Frag) (CB CE CF CN : Addr) : Sp := fun vs H Q E => ∃ (bk : Addr) (v vb : V) (d : PyData) (c p : Nat) (bo : List (List Stm)), vs = [.ref bk, .int (p : Int), vb] ∧ BkO CB H bk c v ∧ Dp K H v (toB bo) ∧ fit (toB bo) 14 = true ∧ (∀ b ∈ bo, okB c bo.length b) ∧ c ≤ 3 ∧ bo.length ≤ 3 ∧ p < bo.length ∧ DvD K H vb d ∧
  (∀ i, cbD d = some i → ErrAt CN H i E) ∧ ∀ bits : List Nat, d = LI (bits.map (Nat.cast : Nat → Int)) → (∀ b ∈ bits, b ≤ 1) → ∃ r, Run1 c bo p bits r ∧ (∀ i, r = .error i → ErrAt CN H i E) ∧ ∀ s' Hd' x H', r = .ok s' → Ex H Hd' → Rep K CE CF Hd' H' x c bits bo s' → Q (.ref x) H'
theorem ok_executed {f fC fI : Addr} {fd fdC fdI : FuncData} {k : Nat} (Fm : Fun K "executed" "executed" sexecuted f fd)
    (FC : FnOk P w K mg base (L2.CX P w) 18 fC fdC ["bits"] (spCB K CN)) (gC : mg "check_bits" = some (.ref fC)) (kC : PySem.W.keepIn K (.ref fC) = true) (bC : Binds K fdC ["bits"] [])
    (ME : Mk K CE fI) (FI : FnOk P w K mg base (L2.CX P w) 21 fI fdI ["self", "book", "procedure", "bits"] (spExI K CB CE CF CN)) (gE : mg "Execution" = some (.ref CE)) (bI : Binds K fdI ["self", "book", "procedure", "bits"] []) (hk : 22 ≤ k) :
    FnOk P w K mg base (L2.CX P w) (k + 1) f fd ["book", "procedure", "bits"] (spExd K CB CE CF CN) := by
  have sc := scexecuted
  refine Fm.okX sc (fun vs H Q E h => ?_) (fun cdv A outer s H vs Q E hr h => ?_)
  · obtain ⟨bk, v, vb, d, c, p, bo, rfl, _⟩ := h
    rfl
  · obtain ⟨bk, v, vb, d, c, p, bo, rfl, ⟨dk, hbk⟩, hv, hfit, hok, hc3, hm3, hp, hvb, qe, qo⟩ := h
    refine ⟨_, (pss_cons (ps_expr (pe_callS FC (hr.mono (by omega)) (by rfl) gC kC bC (passAt (takes_of rfl rfl rfl rfl)) (pa_cons (pv 2) pa_nil)))
      (pss_one (ps_ret (pe_make ME FI (hr.mono (by omega)) (by rfl) gE bI .nil (passes_call (takes_of rfl rfl rfl rfl) fun _ _ _ _ h => h) (pa_cons (pv 0) (pa_cons (pv 1) (pa_cons (pv 2) pa_nil))))))), ?_⟩
    refine ⟨vb, rfl, vb, d, rfl, hvb, fun i hi => qe i hi, fun H1 e1 hz => ?_⟩
    obtain ⟨bits, rfl, hb1⟩ := cbD_none hz
    obtain ⟨r, hrun, re, ro⟩ := qo bits rfl hb1
    obtain ⟨n, hn, hgo⟩ := hrun.go
    obtain ⟨bt, rfl, hbt⟩ := dp_li (dvd_li (dvd_ex e1 hvb))
    rw [← nat_ints] at hbt
    refine ⟨.ref bk, rfl, .int (p : Int), rfl, .ref bt, rfl, ?_⟩
    intro x dx hx hdx ne
    have hx1 : (upd H1 dx (.own x)) x = none := by rw [upd_ne ne.symm]; exact hx
    refine ⟨x, dx, bk, v, c, p, n, bo, bt, bits, r, H1, rfl, upd_same, hx, (Ex.new hdx).trans (Ex.new hx1), ⟨dk, e1 _ _ hbk⟩, dp_ex e1 _ _ hv, hfit, hok, hc3, hm3, hp, hbt, hb1, hrun.bl, hgo, hn, fun i hi => (re i hi).ex e1, fun s' Hd' H' hs' eg r' => ⟨rfl, ro s' Hd' x H' hs' (e1.trans eg) r'⟩⟩
end
/-! ### raise X() -/
section
variable {X : Cx}
theorem pmk_own0 {C : Addr} {bmB : List Value} {B newId initId : String} {x : Str} {p pos : Pos} (F : ExcBaseFacts B newId initId bmB) (q : PySem.W.excIn X.K C bmB newId = true) (gC : X.mg x = some (.ref C))
    (kC : PySem.W.keepIn X.K (.ref C) = true) (r : Raises X (.ref C)) (hg : Gl X x) (hdb : (x == ("__debug__" : Str)) = false := by decide) : PMk X (.Call (.Name x p) [] [] pos) (fun _ H Q => Q (.ref C) none H) := by
  intro pins s σ H Q I h
  refine wpAny_Call_Name_kw (ld_glob I hg gC ?_ hdb)
  refine PySem.W.callWith_K0 I.kIn kC ?_
  obtain ⟨bm, N, nm, qn, bs, hdct, sn, sub, ab, col, dd, k0, k1, k2, k3, k5, mN, hC, hN, hni, T⟩ := exc_obj I.kIn q
  refine wpAny_call_exc_subT F T hC hN hni (fun h' e hm => ?_) (Nat.zero_le _)
  exact mk_of I hm r h (I.hok.gone hm.new)
end
section
variable {P : Program} {w : World} {K : PySem.W.Frag} {mg : Str → Option Value} {base : Heap} {σ : L2.St} {H H' H0 : Hp}
/-- a test of each item of a tuple -/
theorem el_testsT {tl te : TE} {a : Addr} {xs : List V} {ds : List PyData} {j : Nat} {vs : List Nat} (p : PyData → Bool) (h : Ev tl σ H (.ref a)) (hs : SqT K H a xs) (hx : DpAll K H xs ds) (hl : ds.length ≤ 10000) (hw : ∀ x, wipe ((wipe σ vs).set j (some x)) vs = wipe σ vs)
    (he : ∀ (v : V) (d : PyData) H1, Ex H H1 → Dp K H1 v d → Ev te ((wipe σ vs).set j (some v)) H1 (.bl (p d))) : EvL (tLc (iTup K tl) (gName j) tYes te vs) σ H ((ds.map p).map V.bl) := by
  have lxs := dpa_len hx
  have key : EvL (tLc (iTup K tl) (gName j) tYes te vs) σ H (given xs.length (fun _ => true) (fun i => .bl (p (ds.getD i .none)))) := fun H0 e Q q => h H0 e _ fun H1 e1 => ⟨a, rfl, ⟨xs, ex_t (e.trans e1) hs⟩, fun Dl hD =>
    lc_it walk_tup (Cw H1 (fun _ => true) (fun i => .bl (p (ds.getD i .none))) Dl) ⟨hD, Ex.new hD, upd_same⟩ (fun i H' _ c => ex_t ((e.trans e1).trans c.2.1) hs) (fun i x H' H'' hi c y => by
      obtain ⟨rfl, hxi⟩ := y
      refine ⟨hw x, cw_turn c (by omega) et_yes (fun _ => ?_)⟩
      have hi2 : i < ds.length := by omega
      obtain ⟨v, h1, h2⟩ := dpa_at hx hi2
      have : v = x := Option.some.inj (h1.symm.trans hxi)
      subst this
      exact he v _ H1 (e.trans e1) (dp_ex (e.trans e1) _ _ h2))
      (fun H' c => q Dl H' (fresh_back e1 c.1) (e1.trans c.2.1) c.2.2)⟩
  refine el_is key ?_
  rw [given_all, lxs, List.map_map]
  refine List.ext_getElem (by simp) fun i h1 h2 => ?_
  have hi : i < ds.length := by simpa using h1
  simp only [List.getElem_map, List.getElem_range]
  rw [List.getD_eq_getElem?_getD, List.getElem?_eq_getElem hi]
  rfl
end
section
variable {P : Program} {w : World} {K : PySem.W.Frag} {mg : Str → Option Value} {base : Heap} {σ : L2.St} {H H' : Hp} {te ta tb tc : TE} {E : XK}
theorem ev_bkcells {C X : Addr} {c i : Nat} {v : V} (h : σ[i]? = some (some (.ref X))) (hx : BkO C H X c v) : Ev (tMeth C "cells" (spBkCells C) [] E (tVar i) tNil) σ H (.int (c : Int)) := fun H1 e1 Q q => by
  obtain ⟨dx, hx⟩ := hx
  exact ⟨.ref X, h, X, dx, _, rfl, e1 _ _ hx, rfl, X, c, v, rfl, ⟨dx, e1 _ _ hx⟩, q⟩
theorem ev_bklen {C X : Addr} {c i : Nat} {v : V} {ds : List PyData} (h : σ[i]? = some (some (.ref X))) (hx : BkO C H X c v) (hd : Dp K H v (.list ds)) (hl : ds.length ≤ 10000) :
    Ev (tCB (fun xs H Q => ∃ a dx fs, xs = [.ref a] ∧ H a = some (.ins C dx fs) ∧ spLen K C [.ref a] H (fun v H' => ∃ n : Nat, n < 4611686018427387904 ∧ v = .int (n : Int) ∧ Q (.int (n : Int)) H') E) (tCons (tVar i) tNil)) σ H (.int (ds.length : Int)) := fun H1 e1 Q q => by
  obtain ⟨dx, hx⟩ := hx
  obtain ⟨b, xs, rfl, hb, hxs⟩ := dp_lst hd
  have lx := dpa_len hxs
  exact ⟨.ref X, h, X, dx, _, rfl, e1 _ _ hx, X, c, b, xs, rfl, ⟨dx, e1 _ _ hx⟩, ex_l e1 hb, fun H2 e2 => ⟨xs.length, by omega, rfl, by rw [lx]; exact q H2 e2⟩⟩
end
theorem btw_yes {n : Nat} {pd : PyData} (h : btw 0 ((n : Int) - 1) pd = true) : ∃ i : Nat, pd = .int (i : Int) ∧ i < n := by
  cases pd with
  | int j =>
    rw [btw, Bool.and_eq_true] at h
    have h1 := of_decide_eq_true h.1
    have h2 := of_decide_eq_true h.2
    exact ⟨j.toNat, by rw [Int.toNat_of_nonneg h1], by omega⟩
  | _ => cases h
abbrev sis_board : Stmt := topS 7
theorem scis_board : FnScope ["value", "cells", "item"] ["value", "cells"] (defScope sis_board) := ⟨rfl, rfl, rfl, by decide +kernel, rfl, by decide +kernel, by decide +kernel⟩
abbrev sgiven_board : Stmt := topS 26
theorem scgiven_board : FnScope ["book", "board"] ["book", "board"] (defScope sgiven_board) := ⟨rfl, rfl, rfl, by decide +kernel, rfl, by decide +kernel, by decide +kernel⟩
abbrev srun_of : Stmt := topS 25
theorem scrun_of : FnScope ["book", "procedure", "bits"] ["book", "procedure", "bits"] (defScope srun_of) := ⟨rfl, rfl, rfl, by decide +kernel, rfl, by decide +kernel, by decide +kernel⟩
/-! ### is_board, given_board, run_of -/
def boardD (c : Nat) : PyData → Bool
  | .tuple ds => decide (ds.length = c) && ds.all isIntD
  | _ => false
section
variable {P : Program} {w : World} {K : PySem.W.Frag} {mg : Str → Option Value} {base : Heap} {σ : L2.St} {Hd Hd' H H' H0 : Hp}
def spBoard (K : PySem.W.Frag) : Sp := fun vs H Q _ => ∃ (v : V) (d : PyData) (c n : Nat), vs = [v, .int (c : Int)] ∧ Dp K H v d ∧ fit d n = true ∧ ∀ H', Ex H H' → Q (.bl (boardD c d)) H'
theorem ok_is_board {f : Addr} {fd : FuncData} {k : Nat} (F : Fun K "is_board" "is_board" sis_board f fd) (z_isinstance : mg "isinstance" = none) (z_tuple : mg "tuple" = none) (z_len : mg "len" = none) (z_all : mg "all" = none) (Cis_integer : Cal P w K mg base 1 "is_integer" (spInt K) []) (hk : 1 ≤ k) :
    FnOk P w K mg base CX0 (k + 1) f fd ["value", "cells"] (spBoard K) := by
  have sc := scis_board
  refine F.ok sc (fun vs H Q E h => ?_) (fun cdv A outer s H vs Q E hr h => ?_)
  · obtain ⟨v, d, c, n, rfl, _⟩ := h
    rfl
  · obtain ⟨v, d, c, n, rfl, hd, hf, q⟩ := h
    refine ⟨_, (pss_one (ps_ret (pe_and (pe_callB call_isi (by rfl) z_isinstance (by decide +kernel) (pa_cons (pv 0) (pa_cons (pe_bltn (v := .ty "tuple") (by rfl) z_tuple (by decide +kernel) rfl) pa_nil))) (pe_and (pe_cmpR op_eq (pe_callB call_len_seq (by rfl) z_len (by decide +kernel) (pa_cons (pv 0) pa_nil)) (pv 1) (nomark _)) (pe_one (pe_callB (cr_all rfl) (by rfl) z_all (by decide +kernel) (pa_cons (pe_lc (own := [("item", 2)]) (by rfl) sc.nd (pi_tup (pv 0)) (blkOk_by (own := [("item", 2)]) (N := ["value", "cells", "item"]) (sc := defScope sis_board) (by decide +kernel)) (fun _ _ _ _ _ => (pg_name (i := 2) sc.nd rfl (by first | exact Or.inl rfl | exact Or.inr rfl))) (fun _ _ _ _ _ => pts_nil) (fun _ _ _ _ _ => (pe_c Cis_integer hr (by omega) (by rfl) (pa_cons (pv 2) pa_nil)))) pa_nil))))))), ?_⟩
    have kd := kitB_isa d
    cases hb : isa d "tuple" with
    | false =>
      have z : boardD c d = false := by
        rw [isa_tuple] at hb
        cases d <;> first | rfl | cases hb
      rw [z] at q
      exact s_ret (ev_andV (a := false) (b := false) (ev_is (ev_isi hd (ev_var rfl) kd.2.2.2.2) (by rw [hb])) fun h => (nomatch h)) fun H1 e1 => q H1 e1
    | true =>
      obtain ⟨a, xs, ds, rfl, rfl, hs, hx⟩ := isa_tuple_t hd hb
      obtain ⟨m, em, lx, gx⟩ := fit_tuple hf
      have lxs := dpa_len hx
      refine s_ret (ev_andV (a := true) (ev_is (ev_isi hd (ev_var rfl) kd.2.2.2.2) (by rw [hb])) fun _ => ev_andV (a := decide (ds.length = c)) (ev_is (ev_op (ev_lenS (ev_var rfl) (.inr hs)) (ev_var rfl) (rv_eq rfl)) (by rw [lxs, V.bl.injEq, Bool.eq_iff_iff, decide_eq_true_iff, decide_eq_true_iff, V.int.injEq, Int.ofNat_inj])) fun _ => ev_allN (el_testsT isIntD (ev_var rfl) hs hx lx (fun _ => rfl) fun v d H2 e2 hv => ev_spInt (ev_var rfl) hv)) fun H1 e1 => ?_
      rw [all_map]
      exact q H1 e1
/-- [0] * n -/
theorem el_repZ {ta tb : TE} {x : Int} {n : Nat} (h1 : EvL ta σ H [.int x]) (h2 : Ev tb σ H (.int (n : Int))) (hn : n ≤ 1000) : EvL (tOp rRep ta tb) σ H ((List.replicate n x).map V.int) := fun H0 e Q q => h1 H0 e _ fun p H1 _ e1 hp => h2 H1 (e.trans e1) _ fun H2 e2 => by
  refine ⟨p, (n : Int), _, rfl, rfl, e2 _ _ hp, by omega, by omega, ?_, fun r hr => ?_⟩
  · have : 1000 ≤ sizeLine := by decide
    rw [Int.toNat_natCast]
    show 1 * n ≤ sizeLine
    omega
  · have z : (List.replicate (n : Int).toNat [V.int x]).flatten = (List.replicate n x).map V.int := by
      rw [Int.toNat_natCast, List.map_replicate]
      clear hr e2 h2 hn q
      induction n with
      | zero => rfl
      | succ n ih => rw [List.replicate_succ, List.flatten_cons, ih]; rfl
    rw [z]
    exact q r _ (fresh_back (e1.trans e2) hr) ((e1.trans e2).trans (Ex.new hr)) upd_same
/-- tuple(l) of a new list -/
theorem eu_tupOf {te : TE} {xs : List V} (h : EvL te σ H xs) : EvU (tCB (fun xs H Q => ∃ p ys, xs = [V.ref p] ∧ ((SqL K H p ys ∧ ∀ l, H l = none → Q (.ref l) (upd H l (.tup ys))) ∨ (SqT K H p ys ∧ Q (.ref p) H))) (tCons te tNil)) σ H xs := fun H0 e Q q => h H0 e _ fun p H1 _ e1 hp =>
  ⟨p, xs, rfl, .inl ⟨sq_of hp, fun l hl => q l _ (fresh_back e1 hl) (e1.trans (Ex.new hl)) upd_same⟩⟩
theorem dp_non {v : V} {d : PyData} (h : Dp K H v d) : v = .non ↔ d = .none := by
  cases h <;> simp
/-- the board that is meant -/
def spGB (K : PySem.W.Frag) (CB CQ : Addr) : Sp := fun vs H Q E => ∃ (bk : Addr) (vb v : V) (d : PyData) (c n : Nat), vs = [.ref bk, v] ∧ BkO CB H bk c vb ∧ c ≤ 3 ∧ Dp K H v d ∧ fit d n = true ∧
  (d = .none → ∀ T H', H T = none → Ex H H' → H' T = some (.tup ((List.replicate c (0 : Int)).map V.int)) → Q (.ref T) H') ∧
  (d ≠ .none → boardD c d = true → ∀ H', Ex H H' → Q v H') ∧
  (d ≠ .none → boardD c d = false → ∀ H', Ex H H' → E (.ref CQ) none H')
theorem ok_given_board {CB CQ f fc fb : Addr} {fd fdc fdb : FuncData} {k : Nat} {mQ : List Value} (F : Fun K "given_board" "given_board" sgiven_board f fd) (z_tuple : mg "tuple" = none) (cB : Cls K CB)
    (Fcl : FnOk P w K mg base CX0 1 fc fdc ["self"] (spBkCells CB)) (mcl : Meth K CB "cells" fc) (bcl : Binds K fdc ["self"] []) (Cis_board : Cal P w K mg base 3 "is_board" (spBoard K) [])
    (FQ : ExcBaseFacts "ValueError" "ValueError.__new__" "ValueError.__init__" mQ) (xQ : PySem.W.excIn K CQ mQ "ValueError.__new__" = true) (gQ : mg "NoBoard" = some (.ref CQ)) (kQ : PySem.W.keepIn K (.ref CQ) = true) (bQ : PySem.W.subIn K (.ref CQ) (.type "BaseException") = some true) (tQ : PySem.W.typeIn K (.ref CQ) = some (.type "type")) (hk : 3 ≤ k) :
    FnOk P w K mg base (L2.CX P w) (k + 1) f fd ["book", "board"] (spGB K CB CQ) := by
  have sc := scgiven_board
  refine F.okX sc (fun vs H Q E h => ?_) (fun cdv A outer s H vs Q E hr h => ?_)
  · obtain ⟨bk, vb, v, d, c, n, rfl, _⟩ := h
    rfl
  · obtain ⟨bk, vb, v, d, c, n, rfl, ⟨dk, hbk⟩, hc3, hd, hf, q1, q2, q3⟩ := h
    refine ⟨_, (pss_cons (ps_if (pt_cmpR op_isN (pv 1) pe_non (nomark _))
      (pss_one (ps_ret (pe_callTy call_tuple_of (by rfl) z_tuple (by decide +kernel) (pa_cons (pe_op op_rep (pe_lst (pa_cons pe_int pa_nil)) (pe_meth0 (pv 0) cB mcl Fcl (hr.mono (by omega)) bcl .nil pass0)) pa_nil))))
      pss_nil)
      (pss_cons (ps_if (pt_not (pt_val (pe_c Cis_board hr (by omega) (by rfl) (pa_cons (pv 1) (pa_cons (pe_meth0 (pv 0) cB mcl Fcl (hr.mono (by omega)) bcl .nil pass0) pa_nil)))))
      (pss_one (ps_raise rfl (takes_of rfl rfl rfl rfl) (pmk_own0 FQ xQ gQ kQ (raises_own bQ tQ) rfl)))
      pss_nil)
      (pss_one (ps_ret (pv 1))))), ?_⟩
    by_cases hvn : v = .non
    · subst hvn
      refine q_when (b := true) (et_is (et_test (ev_op (z := .bl (decide (V.non = V.non))) (ev_var rfl) ev_c (rv_val fun _ _ _ q => ⟨rfl, q⟩))) (by simp)) (fun _ H1 e1 => ?_) (fun h => (nomatch h))
      exact s_retU (eu_tupOf (el_repZ (el_lst (ea_cons ev_c ea_nil) (by decide)) (ev_bkcells rfl ⟨dk, e1 _ _ hbk⟩) (by omega))) fun T H2 hT e2 h2 => q1 ((dp_non hd).mp rfl) T H2 (fresh_back e1 hT) (e1.trans e2) h2
    · have hdn : d ≠ .none := fun z => hvn ((dp_non hd).mpr z)
      refine q_when (b := false) (et_is (et_test (ev_op (z := .bl (decide (v = V.non))) (ev_var rfl) ev_c (rv_val fun _ _ _ q => ⟨rfl, q⟩))) (by simp [hvn])) (fun h => (nomatch h)) (fun _ H1 e1 => ?_)
      refine q_when (et_not (et_B (ev_call (ea_cons (ev_var rfl) (ea_cons (ev_bkcells rfl ⟨dk, e1 _ _ hbk⟩) ea_nil)) fun H2 e2 Q q _ => ⟨v, d, c, n, rfl, dp_ex (e1.trans e2) _ _ hd, hf, q⟩))) (fun hb H2 e2 => ?_) (fun hb H2 e2 => ?_)
      · exact q3 hdn (by simpa using hb) H2 (e1.trans e2)
      · exact s_ret (ev_var rfl) fun H3 e3 => q2 hdn (by simpa using hb) H3 ((e1.trans e2).trans e3)
/-- the execution of a run -/
def spRunOf (K : PySem.W.Frag) (CB CE CF CN CP : Addr) : Sp := fun vs H Q E => ∃ (bk : Addr) (v pw vb : V) (pd d : PyData) (c : Nat) (bo : List (List Stm)), vs = [.ref bk, pw, vb] ∧ BkO CB H bk c v ∧ Dp K H v (toB bo) ∧ fit (toB bo) 14 = true ∧ (∀ b ∈ bo, okB c bo.length b) ∧ c ≤ 3 ∧ bo.length ≤ 3 ∧ Dp K H pw pd ∧ DvD K H vb d ∧
  (btw 0 ((bo.length : Int) - 1) pd = false → ∀ H', Ex H H' → E (.ref CP) none H') ∧
  ∀ p : Nat, pd = .int (p : Int) → p < bo.length → (∀ i, cbD d = some i → ErrAt CN H i E) ∧ ∀ bits : List Nat, d = LI (bits.map (Nat.cast : Nat → Int)) → (∀ b ∈ bits, b ≤ 1) → ∃ r, Run1 c bo p bits r ∧ (∀ i, r = .error i → ErrAt CN H i E) ∧ ∀ s' Hd' x H', r = .ok s' → Ex H Hd' → Rep K CE CF Hd' H' x c bits bo s' → Q (.ref x) H'
theorem ok_run_of {CB CE CF CN CP f fl fE : Addr} {fd fdl fdE : FuncData} {k : Nat} {mP : List Value} (F : Fun K "run_of" "run_of" srun_of f fd) (z_len : mg "len" = none) (cB : Cls K CB)
    (Fl : FnOk P w K mg base CX0 1 fl fdl ["self"] (spLen K CB)) (sl : PySem.W.findIn K (.ref CB) "__len__" = some (some (.ref fl))) (il : PySem.W.isFn K (.ref fl) = true) (bl : Binds K fdl ["self"] []) (Cis_index : Cal P w K mg base 3 "is_index" (spIx K) [])
    (FE : FnOk P w K mg base (L2.CX P w) 23 fE fdE ["book", "procedure", "bits"] (spExd K CB CE CF CN)) (gE : mg "executed" = some (.ref fE)) (kE : PySem.W.keepIn K (.ref fE) = true) (bE : Binds K fdE ["book", "procedure", "bits"] [])
    (FP : ExcBaseFacts "ValueError" "ValueError.__new__" "ValueError.__init__" mP) (xP : PySem.W.excIn K CP mP "ValueError.__new__" = true) (gP : mg "NoProcedure" = some (.ref CP)) (kP : PySem.W.keepIn K (.ref CP) = true) (bP : PySem.W.subIn K (.ref CP) (.type "BaseException") = some true) (tP : PySem.W.typeIn K (.ref CP) = some (.type "type")) (hk : 23 ≤ k) :
    FnOk P w K mg base (L2.CX P w) (k + 1) f fd ["book", "procedure", "bits"] (spRunOf K CB CE CF CN CP) := by
  have sc := scrun_of
  refine F.okX sc (fun vs H Q E h => ?_) (fun cdv A outer s H vs Q E hr h => ?_)
  · obtain ⟨bk, v, pw, vb, pd, d, c, bo, rfl, _⟩ := h
    rfl
  · obtain ⟨bk, v, pw, vb, pd, d, c, bo, rfl, ⟨dk, hbk⟩, hv, hfit, hok, hc3, hm3, hp, hvb, qa, qb⟩ := h
    refine ⟨_, (pss_cons (ps_if (pt_not (pt_val (pe_c Cis_index hr (by omega) (by rfl) (pa_cons (pv 1) (pa_cons (pe_callB (call_lenOwn Fl sl il bl (hr.mono (by omega)) pass0) (by rfl) z_len (by decide +kernel) (pa_cons (pv 0) pa_nil)) pa_nil)))))
      (pss_one (ps_raise rfl (takes_of rfl rfl rfl rfl) (pmk_own0 FP xP gP kP (raises_own bP tP) rfl)))
      pss_nil)
      (pss_one (ps_ret (pe_callS FE (hr.mono (by omega)) (by rfl) gE kE bE (passAt (takes_of rfl rfl rfl rfl)) (pa_cons (pv 0) (pa_cons (pv 1) (pa_cons (pv 2) pa_nil))))))), ?_⟩
    obtain ⟨B, xs, rfl, hB, hxs⟩ := dp_lst hv
    have lx := dpa_len hxs
    rw [List.length_map] at lx
    refine q_when (et_not (et_B (ev_spIx (n := (bo.length : Int)) (ev_var rfl) (ev_is (ev_bklen rfl ⟨dk, hbk⟩ hv (by rw [List.length_map]; omega)) (by rw [List.length_map])) hp))) (fun hb H1 e1 => ?_) (fun hb H1 e1 => ?_)
    · exact qa (by simpa using hb) H1 e1
    · obtain ⟨p, rfl, hpl⟩ := btw_yes (by simpa using hb)
      cases hp
      obtain ⟨qe, qo⟩ := qb p rfl hpl
      refine s_retR ?_
      exact ⟨.ref bk, rfl, .int (p : Int), rfl, vb, rfl, bk, _, vb, d, c, p, bo, rfl, ⟨dk, e1 _ _ hbk⟩, dp_ex e1 _ _ hv, hfit, hok, hc3, hm3, hpl, dvd_ex e1 hvb, fun i hi => (qe i hi).ex e1, fun bits hd hb1 => by
        obtain ⟨r, h1, h2, h3⟩ := qo bits hd hb1
        exact ⟨r, h1, fun i hi => (h2 i hi).ex e1, fun s' Hd' x H' hs' eg r' => h3 s' Hd' x H' hs' (e1.trans eg) r'⟩⟩
end
abbrev splayed : Stmt := topS 27
theorem scplayed : FnScope ["book", "procedure", "bits", "board", "n", "run", "first", "numbers"] ["book", "procedure", "bits", "board", "n"] (defScope splayed) := ⟨rfl, rfl, rfl, by decide +kernel, rfl, by decide +kernel, by decide +kernel⟩
/-! ### played, run_matrix -/
section
variable {P : Program} {w : World} {K : PySem.W.Frag} {mg : Str → Option Value} {base : Heap} {σ : L2.St} {Hd Hd' H H' H0 : Hp}
/-- [e for k in range(n)], e a new list -/
theorem q_asgP {i : Nat} {te : TE} {tz : TS} {D : Ends} {Φ : V → Hp → Prop} (h : EvP te σ H Φ) (k : ∀ v H1, Ex H H1 → Φ v H1 → tz D (σ.set i (some v)) H1) : tSeq (tAsg te (gName i)) tz D σ H := h H (Ex.refl H) _ fun v H1 e f => k v H1 e f
theorem behB_len (st : List Stp) (v : List Int) : (behB st v).length = v.length := by
  have : ∀ (st : List Stp) (b : BSt), (st.foldl stepB b).1.length = b.1.length := by
    intro st
    induction st with
    | nil => intro b; rfl
    | cons t r ih => intro b; rw [List.foldl_cons, ih, stepB_len]
  exact this st _
theorem map_getD (l : List Int) (n : Nat) (h : l.length = n) : l.map V.int = (List.range n).map fun i => V.int (l.getD i 0) := by
  subst h
  refine List.ext_getElem (by simp) fun i h1 h2 => ?_
  rw [List.length_map] at h1
  simp [List.getElem?_eq_getElem h1]
theorem pe_fldK {X : Cx} {K : PySem.W.Frag} {e : Expr} {ta : TE} {f : Str} {pos : Pos} (hK : X.K = K) (he : PE X e ta) (hb : attributeBase e f X.env (eval e X.env) = eval e X.env) : PE X (.Attribute e f pos) (tFld K ta f) := by
  subst hK
  exact pe_fld he hb
/-- a run's steps are well formed, and not too many -/
theorem run_steps {c p : Nat} {bits : List Nat} {bo : List (List Stm)} {s' : Cf} (hm : bo.length ≤ 3) (hok : ∀ b ∈ bo, okB c bo.length b) (hc : c ≤ 3) (hp : p < bo.length) (r : Run1 c bo p bits (.ok s')) : chkS (c + 2) 0 s'.steps = some 0 ∧ s'.steps.length ≤ 90000 := by
  obtain ⟨n, hn, hg⟩ := r.go
  have hbo : ∀ b ∈ bo, ∃ lv, okL c bo.length b lv := fun b hb => ⟨_, (hok b hb).1⟩
  rw [runC] at hg
  cases hb : bgnC bo (iniC bo) p none with
  | error e => rw [hb] at hg; cases hg
  | ok s1 =>
    rw [hb] at hg
    dsimp only at hg
    cases hgo : goC c bits bo n s1 with
    | none => rw [hgo] at hg; cases hg
    | some o =>
      rw [hgo] at hg
      cases o with
      | error e => cases hg
      | ok s2 =>
        dsimp only at hg
        split at hg
        · cases hg
        · cases hg
          obtain ⟨h1, h2, h3⟩ := bgn_ok (c := c) (bits := bits) ini_ok rfl hbo hp (fun a b h => by cases h) (fun h => absurd rfl h) hb
          have hw : StW c s1 := by
            rw [bgnC] at hb
            split at hb
            · cases hb
            · cases hb
              exact ⟨rfl, ⟨fun _ => rfl, trivial⟩⟩
          obtain ⟨g1, g2, g3, g4⟩ := go_w rfl hbo hc n h1 hw hgo
          have hk := g2.chk
          rw [g3] at hk
          refine ⟨hk, ?_⟩
          have : sz (iniC bo) = 0 := rfl
          have hs : s'.steps.length ≤ sz s' := Nat.le_add_right _ _
          omega
theorem el_beh {t1 t2 : TE} {E : XK} {S : Addr} {svs : List V} {st : List Stp} {v : List Int} {d : Nat} (h1 : Ev t1 σ H (.ref S)) (h2 : EvL t2 σ H (v.map V.int)) (hS : SqL K H S svs) (hst : DpAll K H svs (st.map stpD)) (hl : v.length ≤ 100) (hs : st.length ≤ 90000) (hc : chkS v.length 0 st = some d) :
    EvL (tCall (spBeh K) [] E (tCons t1 (tCons t2 tNil))) σ H ((behB st v).map V.int) := fun H1 e Q q => h1 H1 e _ fun H2 e2 => h2 H2 (e.trans e2) _ fun A1 H3 hA e3 h3 =>
  ⟨S, A1, svs, st, v, d, rfl, ex_l ((e.trans e2).trans e3) hS, dpa_ex ((e.trans e2).trans e3) _ _ hst, sq_of h3, hl, hs, hc, fun D H4 hD e4 h4 => q D H4 (fresh_back (e2.trans e3) hD) ((e2.trans e3).trans e4) h4⟩
end
/-! ### played -/
def intsD : PyData → List Int
  | .tuple ds => ds.map fun d => match d with
    | .int i => i
    | _ => 0
  | _ => []
def bdOf (c : Nat) : PyData → Option (List Int)
  | .none => some (List.replicate c 0)
  | d => if boardD c d = true then some (intsD d) else none
def playD (c : Nat) (s : Cf) (b : List Int) (n : Int) : PyData :=
  .tuple [.int (s.way : Int), .tuple ((((behB s.steps (1 :: (b ++ [n]))).drop 1).take c).map PyData.int), .int ((behB s.steps (1 :: (b ++ [n]))).getD (c + 1) 0), .int (s.len : Int)]
section
variable {P : Program} {w : World} {K : PySem.W.Frag} {mg : Str → Option Value} {base : Heap} {σ : L2.St} {Hd Hd' H H' H0 : Hp}
theorem ints_of : ∀ (ds : List PyData), ds.all isIntD = true → ds = (intsD (.tuple ds)).map PyData.int
  | [], _ => rfl
  | d :: r, h => by
    rw [List.all_cons, Bool.and_eq_true] at h
    have := ints_of r h.2
    cases d with
    | int i =>
      show _ = PyData.int i :: (intsD (.tuple r)).map PyData.int
      rw [← this]
    | _ => cases h.1
theorem board_ok {c : Nat} {v : V} {d : PyData} (h : Dp K H v d) (hb : boardD c d = true) : ∃ a b, v = .ref a ∧ SqT K H a (b.map V.int) ∧ intsD d = b ∧ b.length = c := by
  cases d with
  | tuple ds =>
    rw [boardD, Bool.and_eq_true] at hb
    obtain ⟨a, xs, rfl, ht, hx⟩ := dp_tup h
    have hd := ints_of ds hb.2
    rw [hd] at hx
    rw [dp_ints hx] at ht
    refine ⟨a, _, rfl, ht, rfl, ?_⟩
    have h1 := of_decide_eq_true hb.1
    rw [← h1, intsD, List.length_map]
  | _ => cases hb
def spPlay (K : PySem.W.Frag) (CB CN CP CQ CM : Addr) : Sp := fun vs H Q E => ∃ (bk : Addr) (v pw vb wv nv : V) (pd d wd nd : PyData) (c nf : Nat) (bo : List (List Stm)), vs = [.ref bk, pw, vb, wv, nv] ∧ BkO CB H bk c v ∧ Dp K H v (toB bo) ∧ fit (toB bo) 14 = true ∧ (∀ b ∈ bo, okB c bo.length b) ∧ c ≤ 3 ∧ bo.length ≤ 3 ∧ Dp K H pw pd ∧ DvD K H vb d ∧ Dp K H wv wd ∧ fit wd nf = true ∧ Dp K H nv nd ∧
  (btw 0 ((bo.length : Int) - 1) pd = false → ∀ H', Ex H H' → E (.ref CP) none H') ∧
  ∀ p : Nat, pd = .int (p : Int) → p < bo.length → (∀ i, cbD d = some i → ErrAt CN H i E) ∧ ∀ bits : List Nat, d = LI (bits.map (Nat.cast : Nat → Int)) → (∀ b ∈ bits, b ≤ 1) → ∃ r, Run1 c bo p bits r ∧ (∀ i, r = .error i → ErrAt CN H i E) ∧
    ∀ s', r = .ok s' → (wd ≠ .none → boardD c wd = false → ∀ H', Ex H H' → E (.ref CQ) none H') ∧
      ∀ b, bdOf c wd = some b → (isIntD nd = false → ∀ H', Ex H H' → E (.ref CM) none H') ∧ ∀ n, nd = .int n → ∀ u H', Ex H H' → Dp K H' u (playD c s' b n) → Q u H'
theorem cut_mid {xs : List V} {c : Nat} (h : xs.length = c + 2) : cutV xs (some 1) (some (-1)) = (xs.drop 1).take c := by
  have h1 : HT.sIx (c + 2) 0 (some 1) = 1 := by
    rw [show HT.sIx (c + 2) 0 (some 1) = min 1 (c + 2) from HT.sIx_nat (c + 2) 0 1]
    omega
  have h2 : HT.sIx (c + 2) (c + 2) (some (-1)) = c + 1 := by
    have : HT.sIx (c + 2) (c + 2) (some (-1)) = ((-1 : Int) + ((c + 2 : Nat) : Int)).toNat := by
      rw [HT.sIx]
      exact if_pos (by decide)
    omega
  unfold cutV
  rw [h, h1, h2, Nat.add_sub_cancel]
theorem at_last {xs : List V} {c : Nat} {v : V} (h : xs.length = c + 2) (hv : xs[c + 1]? = some v) : atI xs (-1) = some v := by
  obtain ⟨ys, z, rfl⟩ : ∃ ys z, xs = ys ++ [z] := ⟨xs.dropLast, xs.getLast (by intro e; rw [e] at h; cases h), (List.dropLast_concat_getLast _).symm⟩
  rw [List.length_append] at h
  have hl : ys.length = c + 1 := by simpa using h
  rw [List.getElem?_append_right (by omega), hl, Nat.sub_self] at hv
  cases hv
  exact atI_last ys v
theorem s_ret4 {t1 t2 t3 t4 : TE} {v1 v3 v4 : V} {xs : List V} {Dd : Ends} (h1 : Ev t1 σ H v1) (h2 : EvU t2 σ H xs) (h3 : Ev t3 σ H v3) (h4 : Ev t4 σ H v4) (k : ∀ T D H', Ex H H' → H' D = some (.tup xs) → H' T = some (.tup [v1, .ref D, v3, v4]) → Dd.rt (.ref T) H') : tRet (tTup (tCons t1 (tCons t2 (tCons t3 (tCons t4 tNil))))) Dd σ H :=
  h1 H (Ex.refl _) _ fun H1 e1 => h2 H1 e1 _ fun D H2 hD e2 h2' => h3 H2 (e1.trans e2) _ fun H3 e3 => h4 H3 ((e1.trans e2).trans e3) _ fun H4 e4 => ⟨by show 4 ≤ sizeLine; decide, fun T hT => k T D _ ((((e1.trans e2).trans e3).trans e4).trans (Ex.new hT)) ((Ex.new hT) _ _ (e4 _ _ (e3 _ _ h2'))) upd_same⟩
theorem ea_starT {p : Addr} {xs vs : List V} {te : TE} {tr : TA} (h : Ev te σ H (.ref p)) (hp : SqT K H p xs) (hr : EvA tr σ H vs) : EvA (StX.tStar K te tr) σ H (xs ++ vs) := fun H1 e Q q =>
  h H1 e _ fun H2 e2 => ⟨p, xs, rfl, .inl (ex_t (e.trans e2) hp), hr H2 (e.trans e2) _ fun H3 e3 => q H3 (e2.trans e3)⟩
theorem bdOf_none {c : Nat} {d : PyData} (h : d = .none) : bdOf c d = some (List.replicate c 0) := by subst h; rfl
theorem bdOf_some {c : Nat} {d : PyData} (hd : d ≠ .none) (hb : boardD c d = true) : bdOf c d = some (intsD d) := by
  cases d with
  | none => exact absurd rfl hd
  | _ => exact if_pos hb
theorem ok_played {CB CE CF CN CP CQ CM f fR fG : Addr} {fd fdR fdG : FuncData} {k : Nat} {mM : List Value} (F : Fun K "played" "played" splayed f fd) (X : ExC K CE CF) (z_tuple : mg "tuple" = none)
    (FR : FnOk P w K mg base (L2.CX P w) 24 fR fdR ["book", "procedure", "bits"] (spRunOf K CB CE CF CN CP)) (gR : mg "run_of" = some (.ref fR)) (kR : PySem.W.keepIn K (.ref fR) = true) (bR : Binds K fdR ["book", "procedure", "bits"] [])
    (FG : FnOk P w K mg base (L2.CX P w) 4 fG fdG ["book", "board"] (spGB K CB CQ)) (gG : mg "given_board" = some (.ref fG)) (kG : PySem.W.keepIn K (.ref fG) = true) (bG : Binds K fdG ["book", "board"] [])
    (Cis_integer : Cal P w K mg base 1 "is_integer" (spInt K) []) (Cbehind : Cal P w K mg base 1 "behind" (spBeh K) [])
    (FM : ExcBaseFacts "ValueError" "ValueError.__new__" "ValueError.__init__" mM) (xM : PySem.W.excIn K CM mM "ValueError.__new__" = true) (gM : mg "NoNumber" = some (.ref CM)) (kM : PySem.W.keepIn K (.ref CM) = true) (bM : PySem.W.subIn K (.ref CM) (.type "BaseException") = some true) (tM : PySem.W.typeIn K (.ref CM) = some (.type "type")) (hk : 24 ≤ k) :
    FnOk P w K mg base (L2.CX P w) (k + 1) f fd ["book", "procedure", "bits", "board", "n"] (spPlay K CB CN CP CQ CM) := by
  have sc := scplayed
  refine F.okX sc (fun vs H Q E h => ?_) (fun cdv A outer s H vs Q E hr h => ?_)
  · obtain ⟨bk, v, pw, vb, wv, nv, pd, d, wd, nd, c, nf, bo, rfl, _⟩ := h
    rfl
  · obtain ⟨bk, v, pw, vb, wv, nv, pd, d, wd, nd, c, nf, bo, rfl, ⟨dk, hbk⟩, hv, hfit, hok, hc3, hm3, hp, hvb, hwv, hwf, hnv, qa, qb⟩ := h
    refine ⟨_, (pss_cons (ps_set (i := 5) sc.nd rfl (by first | exact Or.inl rfl | exact Or.inr rfl) (pe_callS FR (hr.mono (by omega)) (by rfl) gR kR bR (passAt (takes_of rfl rfl rfl rfl)) (pa_cons (pv 0) (pa_cons (pv 1) (pa_cons (pv 2) pa_nil)))))
      (pss_cons (ps_set (i := 6) sc.nd rfl (by first | exact Or.inl rfl | exact Or.inr rfl) (pe_callS FG (hr.mono (by omega)) (by rfl) gG kG bG (passAt (takes_of rfl rfl rfl rfl)) (pa_cons (pv 0) (pa_cons (pv 3) pa_nil))))
      (pss_cons (ps_if (pt_not (pt_val (pe_c Cis_integer hr (by omega) (by rfl) (pa_cons (pv 4) pa_nil))))
      (pss_one (ps_raise rfl (takes_of rfl rfl rfl rfl) (pmk_own0 FM xM gM kM (raises_own bM tM) rfl)))
      pss_nil)
      (pss_cons (ps_set (i := 7) sc.nd rfl (by first | exact Or.inl rfl | exact Or.inr rfl) (pe_c Cbehind hr (by omega) (by rfl) (pa_cons (pe_fld (pv 5) rfl) (pa_cons (pe_lst (pa_cons pe_int (pa_starK (K := K) rfl (pv 6) (pa_cons (pv 4) pa_nil)))) pa_nil))))
      (pss_one (ps_ret (pe_tup (pa_cons (pe_fld (pv 5) rfl) (pa_cons (pe_callTy call_tuple_of (by rfl) z_tuple (by decide +kernel) (pa_cons (pe_slice sl_list (pv 7) (po_some pe_int) (po_some (pe_un un_neg pe_int))) pa_nil)) (pa_cons (pe_ix ix_list (pv 7) (pe_un un_neg pe_int) (fun _ _ => rfl)) (pa_cons (pe_fld (pv 5) rfl) pa_nil))))))))))), ?_⟩
    refine ⟨.ref bk, rfl, pw, rfl, vb, rfl, bk, v, pw, vb, pd, d, c, bo, rfl, ⟨dk, hbk⟩, hv, hfit, hok, hc3, hm3, hp, hvb, qa, fun p hpd hpl => ?_⟩
    obtain ⟨qe, qo⟩ := qb p hpd hpl
    refine ⟨qe, fun bits hd hb1 => ?_⟩
    obtain ⟨r, hr1, q1, q2⟩ := qo bits hd hb1
    refine ⟨r, hr1, q1, fun s' Hd' x H1 hs' eg hrep => ?_⟩
    subst hs'
    obtain ⟨q3, q4⟩ := q2 s' rfl
    obtain ⟨hchk, hlen⟩ := run_steps hm3 hok hc3 hpl hr1
    obtain ⟨dx, Fa, B, S, bt, bv, fs, bs, svs, R⟩ := hrep
    have e1 : Ex H H1 := eg.trans R.own.ex
    have hx1 := R.hx
    have hS1 : SqL K H1 S svs := sq_of R.hS
    have hst1 : DpAll K H1 svs (s'.steps.map stpD) := dpa_ex R.own.ex _ _ R.hst
    clear R
    have l1 : List.lookup ("steps" : Str) (exF bv c bt s'.taken Fa B S s'.len s'.way) = some (V.ref S) := rfl
    have l2 : List.lookup ("way" : Str) (exF bv c bt s'.taken Fa B S s'.len s'.way) = some (V.int (s'.way : Int)) := rfl
    have l3 : List.lookup ("length" : Str) (exF bv c bt s'.taken Fa B S s'.len s'.way) = some (V.int (s'.len : Int)) := rfl
    generalize exF bv c bt s'.taken Fa B S s'.len s'.way = flds at hx1 l1 l2 l3
    dsimp only [gName]
    refine q_asgP (i := 6) (Φ := fun u H2 => ∃ T b, u = .ref T ∧ SqT K H2 T (b.map V.int) ∧ bdOf c wd = some b ∧ b.length = c) (fun H2 e2 Q' q' => ?_) fun u H2 e2 hu => ?_
    · refine ⟨.ref bk, rfl, wv, rfl, bk, v, wv, wd, c, nf, rfl, ⟨dk, e2 _ _ (e1 _ _ hbk)⟩, hc3, dp_ex (e1.trans e2) _ _ hwv, hwf, fun hn T H3 hT e3 h3 => ?_, fun hn hb H3 e3 => ?_, fun hn hb H3 e3 => q3 hn hb H3 (e1.trans (e2.trans e3))⟩
      · exact q' _ _ e3 ⟨T, _, rfl, .inl (.inl h3), bdOf_none hn, List.length_replicate⟩
      · obtain ⟨a, b, rfl, ht, hi, hl⟩ := board_ok hwv hb
        exact q' _ _ e3 ⟨a, b, rfl, ex_t (e1.trans (e2.trans e3)) ht, by rw [bdOf_some hn hb, hi], hl⟩
    · obtain ⟨T, b, rfl, hT, hbd, hbl⟩ := hu
      obtain ⟨q5, q6⟩ := q4 b hbd
      have e02 := e1.trans e2
      refine q_when (et_not (et_B (ev_spInt (ev_var rfl) (dp_ex e02 _ _ hnv)))) (fun hb2 H3 e3 => ?_) (fun hb2 H3 e3 => ?_)
      · exact q5 (by simpa using hb2) H3 (e02.trans e3)
      · obtain ⟨n, rfl, rfl⟩ := isInt_v hnv (by simpa using hb2)
        have e13 := e2.trans e3
        have hvl : (1 :: (b ++ [n])).length = c + 2 := by rw [List.length_cons, List.length_append, hbl]; rfl
        have hve : (1 :: (b ++ [n])).map V.int = [V.int 1] ++ (b.map V.int ++ [V.int n]) := by rw [List.map_cons, List.map_append]; rfl
        refine q_asgL (el_beh (v := 1 :: (b ++ [n])) (ev_fld X.cE X.n_steps (ev_var rfl) (e13 _ _ hx1) l1) (el_is (el_lst (ea_cons ev_c (ea_starT (ev_var rfl) (ex_t e3 hT) (ea_cons (ev_var rfl) ea_nil))) (by rw [List.length_cons, List.length_append, List.length_map, hbl]; show c + 1 + 1 ≤ 100000; omega)) hve.symm) (ex_l e13 hS1) (dpa_ex e13 _ _ hst1) (by rw [hvl]; omega) hlen (by rw [hvl]; exact hchk)) fun N H4 hN e4 h4 => ?_
        have e14 := e13.trans e4
        have hbl2 : (behB s'.steps (1 :: (b ++ [n]))).length = c + 2 := by rw [behB_len, hvl]
        have hml : ((behB s'.steps (1 :: (b ++ [n]))).map V.int).length = c + 2 := by rw [List.length_map, hbl2]
        refine s_ret4 (v3 := .int ((behB s'.steps (1 :: (b ++ [n]))).getD (c + 1) 0)) (ev_fld X.cE X.n_way (ev_var rfl) (e14 _ _ hx1) l2) (eu_tupOf (el_sl (ev_var rfl) (eo_some ev_c) (eo_some (ev_un ev_c ru_neg)) (sq_of h4))) (ev_op (ev_var rfl) (ev_un ev_c ru_neg) (rv_ixL (sq_of h4) (at_last hml ?_))) (ev_fld X.cE X.n_length (ev_var rfl) (e14 _ _ hx1) l3) fun U D H5 e5 h5 hU => ?_
        · rw [List.getElem?_map, List.getElem?_eq_getElem (by omega), List.getD_eq_getElem?_getD, List.getElem?_eq_getElem (by omega)]; rfl
        · refine q6 n rfl _ H5 (e02.trans (e3.trans (e4.trans e5))) ?_
          rw [cut_mid hml, ← List.map_drop, ← List.map_take] at h5
          exact .tup (.inl (.inl hU)) (.cons (.int _) (.cons (.tup (.inl (.inl h5)) (dpa_ints _)) (.cons (.int _) (.cons (.int _) .nil))))
end
/-! ### straight lines: the mathematics -/
def isLn : Stm → Prop
  | .set _ _ => True
  | .carry _ => True
  | .fin _ => True
  | _ => False
def lnS (c : Nat) : List Stm → List Stp
  | [] => []
  | .set k r :: t => .put (k + 1) r :: lnS c t
  | .carry r :: t => .put (c + 1) r :: lnS c t
  | .fin _ :: _ => []
  | _ :: t => lnS c t
def lnW : List Stm → Nat
  | [] => 0
  | .fin w :: _ => w
  | .set _ _ :: t => lnW t
  | .carry _ :: t => lnW t
  | _ :: t => lnW t
theorem ln_go (c : Nat) (bits : List Nat) (bo : List (List Stm)) (p : Nat) : ∀ (t blk : List Stm) (pos : Nat) (s : Cf), blk.drop pos = t → pos ≤ blk.length → (∀ x ∈ t, isLn x) → s.frs = [⟨.body, blk, pos, p, none⟩] → ∀ n, t.length + 1 ≤ n →
    ∃ s', goC c bits bo n s = some (.ok s') ∧ s'.taken = s.taken ∧ s'.steps = s.steps ++ lnS c t ∧ s'.len = s.len + (lnS c t).length ∧ s'.way = lnW t
  | _, _, _, _, _, _, _, _, 0, hn => absurd hn (by omega)
  | [], blk, pos, s, hd, hp, hl, hf, n + 1, hn => by
    have hpl : pos = blk.length := by
      have := congrArg List.length hd
      rw [List.length_drop, List.length_nil] at this
      omega
    have ha : advC c bits bo s = .ok { s with frs := [], steps := s.steps, begun := s.begun.set p (s.begun.getD p []).dropLast, way := 0 } := by
      rw [advC, hf]
      dsimp only
      rw [if_pos hpl, lveC, if_pos rfl, endC, hf, endL, if_pos rfl, if_pos rfl]
    rw [goC, if_neg (by rw [hf]; simp), ha]
    dsimp only
    refine ⟨{ s with frs := [], steps := s.steps, begun := s.begun.set p (s.begun.getD p []).dropLast, way := 0 }, ?_, rfl, by rw [lnS, List.append_nil], by rw [lnS]; rfl, rfl⟩
    cases n <;> (rw [goC]; exact if_pos rfl)
  | x :: t, blk, pos, s, hd, hp, hl, hf, n + 1, hn => by
    have hlt : pos < blk.length := by
      cases Nat.lt_or_ge pos blk.length with
      | inl h => exact h
      | inr h => rw [List.drop_of_length_le h] at hd; cases hd
    have hg := List.getElem?_eq_getElem hlt
    rw [List.drop_eq_getElem_cons hlt] at hd
    obtain ⟨h1, h2⟩ := List.cons_eq_cons.mp hd
    rw [h1] at hg
    have ha : advC c bits bo s = excC c bits bo { s with frs := [⟨.body, blk, pos + 1, p, none⟩] } x := by
      rw [advC, hf]
      dsimp only
      rw [if_neg (by omega), hg]
    have hn' : t.length + 1 ≤ n := by
      rw [List.length_cons] at hn
      omega
    have hl' : ∀ y ∈ t, isLn y := fun y hy => hl y (List.mem_cons_of_mem _ hy)
    rw [goC, if_neg (by rw [hf]; simp), ha]
    have hx := hl x (List.mem_cons_self ..)
    cases x with
    | set k r =>
      rw [excC]
      dsimp only
      obtain ⟨s', g1, g2, g3, g4, g5⟩ := ln_go c bits bo p t blk (pos + 1) (cmdC { s with frs := [⟨.body, blk, pos + 1, p, none⟩] } (k + 1) r) h2 (by omega) hl' rfl n hn'
      refine ⟨s', g1, g2, ?_, ?_, g5⟩
      · rw [g3, lnS]
        show (s.steps ++ [.put (k + 1) r]) ++ _ = _
        rw [List.append_assoc]; rfl
      · rw [g4, lnS, List.length_cons]
        show s.len + 1 + _ = _
        omega
    | carry r =>
      rw [excC]
      dsimp only
      obtain ⟨s', g1, g2, g3, g4, g5⟩ := ln_go c bits bo p t blk (pos + 1) (cmdC { s with frs := [⟨.body, blk, pos + 1, p, none⟩] } (c + 1) r) h2 (by omega) hl' rfl n hn'
      refine ⟨s', g1, g2, ?_, ?_, g5⟩
      · rw [g3, lnS]
        show (s.steps ++ [.put (c + 1) r]) ++ _ = _
        rw [List.append_assoc]; rfl
      · rw [g4, lnS, List.length_cons]
        show s.len + 1 + _ = _
        omega
    | fin w =>
      rw [excC, endC, endL, if_pos rfl, if_pos rfl]
      dsimp only
      refine ⟨{ s with frs := [], steps := s.steps, begun := s.begun.set p (s.begun.getD p []).dropLast, way := w }, ?_, rfl, by rw [lnS, List.append_nil], by rw [lnS]; rfl, rfl⟩
      cases n <;> (rw [goC]; exact if_pos rfl)
    | keep cs b => cases hx
    | either a b => cases hx
    | again b => cases hx
    | call p r a b => cases hx
/-- a straight line's run -/
theorem ln_run {c p : Nat} {bits : List Nat} {bo : List (List Stm)} (hp : p < bo.length) (hl : ∀ x ∈ bo.getD p [], isLn x) (h8 : (bo.getD p []).length ≤ 100) (hb : ∀ b ∈ bits, b ≤ 1) (hbl : bits.length ≤ 10000) :
    ∃ s' : Cf, Run1 c bo p bits (if bits = [] then .ok s' else .error 0) ∧ s'.steps = lnS c (bo.getD p []) ∧ s'.len = (lnS c (bo.getD p [])).length ∧ s'.way = lnW (bo.getD p []) := by
  have hbg : ((iniC bo).begun.getD p []).getLast? = none := by
    have : (iniC bo).begun.getD p [] = [] := ini_get p
    rw [this]; rfl
  obtain ⟨s', g1, g2, g3, g4, g5⟩ := ln_go c bits bo p (bo.getD p []) (bo.getD p []) 0 (opnC { (iniC bo) with begun := (iniC bo).begun.set p ((iniC bo).begun.getD p [] ++ [(iniC bo).taken]) } ⟨.body, bo.getD p [], 0, p, none⟩) rfl (Nat.zero_le _) hl rfl 101 (by omega)
  refine ⟨s', ⟨hb, hbl, 101, by decide, ?_⟩, g3, by rw [g4]; exact Nat.zero_add _, g5⟩
  rw [runC, bgnC, if_neg (by rw [hbg]; exact fun h => (nomatch h))]
  dsimp only
  rw [g1]
  have ht : s'.taken = 0 := g2
  dsimp only
  rw [ht]
  cases bits with
  | nil => rfl
  | cons b r => rw [if_pos (by rw [List.length_cons]; omega), if_neg (by simp)]; rfl
/-! ### what a line does, as the law works it out -/
def totL (r v : List Int) (l : Int) : Int := r.getD 0 0 + r.getD (r.length - 1) 0 * l + ((List.range v.length).map fun k => r.getD (1 + k) 0 * v.getD k 0).sum
def lnD : List Stm → List Int → Int → List Int × Int
  | [], v, l => (v, l)
  | .set k r :: t, v, l => lnD t (v.set k (totL r v l)) l
  | .carry r :: t, v, l => lnD t v (totL r v l)
  | .fin _ :: _, v, l => (v, l)
  | _ :: t, v, l => lnD t v l
theorem lnD_len : ∀ (t : List Stm) (v : List Int) (l : Int), (lnD t v l).1.length = v.length
  | [], v, l => rfl
  | .set k r :: t, v, l => by rw [lnD, lnD_len t, List.length_set]
  | .carry r :: t, v, l => by rw [lnD, lnD_len t]
  | .fin _ :: _, v, l => rfl
  | .keep _ _ :: t, v, l => by rw [lnD, lnD_len t] <;> simp
  | .either _ _ :: t, v, l => by rw [lnD, lnD_len t] <;> simp
  | .again _ :: t, v, l => by rw [lnD, lnD_len t] <;> simp
  | .call _ _ _ _ :: t, v, l => by rw [lnD, lnD_len t] <;> simp
def vecL (a : Int) (v : List Int) (l : Int) : List Int := a :: (v ++ [l])
theorem zip_sum : ∀ (r v : List Int), r.length = v.length → ((r.zip v).map fun e => e.1 * e.2).sum = ((List.range v.length).map fun k => r.getD k 0 * v.getD k 0).sum
  | [], [], _ => rfl
  | [], _ :: _, h => by cases h
  | _ :: _, [], h => by cases h
  | a :: r, b :: v, h => by
    rw [List.zip_cons_cons, List.map_cons, List.sum_cons, zip_sum r v (Nat.succ.inj h), List.length_cons, List.range_succ_eq_map, List.map_cons, List.sum_cons, List.map_map]
    rfl
theorem tot_dot {c : Nat} {r v : List Int} {l : Int} (hr : r.length = c + 2) (hv : v.length = c) : dotR r (vecL 1 v l) = totL r v l := by
  obtain ⟨a, m, z, rfl, hm⟩ : ∃ a m z, r = a :: (m ++ [z]) ∧ m.length = c := by
    cases r with
    | nil => cases hr
    | cons a t =>
      have ht : t.length = c + 1 := Nat.succ.inj hr
      have hne : t ≠ [] := fun e => by rw [e] at ht; cases ht
      exact ⟨a, t.dropLast, t.getLast hne, by rw [List.dropLast_concat_getLast], by rw [List.length_dropLast]; omega⟩
  have e1 : (a :: (m ++ [z])).length - 1 = m.length + 1 := by simp
  rw [dotR, vecL, totL, List.zip_cons_cons, List.map_cons, List.sum_cons, List.zip_append (by omega), List.map_append, List.sum_append, zip_sum m v (by omega), e1]
  have e2 : (a :: (m ++ [z])).getD (m.length + 1) 0 = z := by
    rw [List.getD_eq_getElem?_getD, List.getElem?_cons_succ, List.getElem?_append_right (Nat.le_refl _), Nat.sub_self]; rfl
  have e3 : ((List.range v.length).map fun k => (a :: (m ++ [z])).getD (1 + k) 0 * v.getD k 0) = (List.range v.length).map fun k => m.getD k 0 * v.getD k 0 := by
    refine List.map_congr_left fun k hk => ?_
    have hkv := List.mem_range.mp hk
    rw [List.getD_eq_getElem?_getD, Nat.add_comm 1 k, List.getElem?_cons_succ, List.getElem?_append_left (by omega), List.getD_eq_getElem?_getD (l := m)]
  rw [e2, e3]
  simp only [List.zip_cons_cons, List.zip_nil_right, List.map_cons, List.map_nil, List.sum_cons, List.sum_nil, List.getD_cons_zero]
  omega
/-! ### defs that call one another deeply: a room by single frames -/
section
/-- room for d frames, and some more below them -/
structure RoomR (d : Nat) (A : Around) : Prop where
  hd : A.handled = none
  dp : A.depth + d + 40 < recursionLimit
  un : A.units + 3 * d + 600 < cLine
theorem RoomR.sub {i d : Nat} {A : Around} (r : RoomR d A) (h : i ≤ d) : RoomR i A := ⟨r.hd, by have := r.dp; omega, by have := r.un; omega⟩
theorem RoomR.down {d : Nat} {A : Around} (r : RoomR (d + 1) A) (env : Env) : RoomR d (A.deeper env) :=
  ⟨r.hd, by have h1 := r.dp; show A.depth + 1 + d + 40 < recursionLimit; omega, by have h1 := r.un; show A.units + 3 + 3 * d + 600 < cLine; omega⟩
/-- the common room below -/
theorem RoomR.room {d k : Nat} {A : Around} (r : RoomR d A) (h : k ≤ 10) : Room k A := ⟨r.hd, by have := r.dp; omega, by have := r.un; omega⟩
theorem roomR_of {d k : Nat} {A : Around} (r : Room k A) (h : d + 35 ≤ 3 * k) (h2 : 3 * d + 400 ≤ 16 * k) : RoomR d A := ⟨r.hd, by have := r.dp; omega, by have := r.un; omega⟩
/-- a def that needs d frames keeps its promise -/
structure FnR (P : Program) (w : World) (K : PySem.W.Frag) (mg : Str → Option Value) (base : Heap) (d : Nat) (f : Addr) (fd : FuncData) (ps : List Str) (sp : Sp) : Prop where
  len : ∀ vs H Q E, sp vs H Q E → vs.length = ps.length
  go : ∀ (A : Around) (outer : List Env) (s : Shared) (H : Hp) (args : Args) (us : List Value) (vs : List V) (Q : VK) (E : XK), RoomR d A → Env0 P w K mg base A outer s H → BindsTo s fd args (ps.zip us) → Vals vs us → sp vs H Q E →
    codeAny (model P w) A (.call (.ref f) args) (CR CX0 outer P w H s Q E) s
structure CalR (P : Program) (w : World) (K : PySem.W.Frag) (mg : Str → Option Value) (base : Heap) (d : Nat) (x : Str) (sp : Sp) : Prop where
  ex : ∃ (f : Addr) (fd : FuncData) (ps : List Str), FnR P w K mg base d f fd ps sp ∧ mg x = some (.ref f) ∧ PySem.W.keepIn K (.ref f) = true ∧ Binds K fd ps []
section
variable {X : Cx} {d e : Nat} {f : Addr} {fd : FuncData} {ps : List Str} {sp : Sp} {x : Str} {p pos : Pos} {a : Expr} {es : List Expr} {t : TA}
theorem fnR_run {pins : List (Addr × Obj)} {σ : L2.St} {H : Hp} {s : Shared} {Q : VK} {us : List Value} {vs : List V} {E : XK} (F : FnR X.prog X.w X.K X.mg X.base d f fd ps sp) (hr : RoomR d X.A) (hb : Binds X.K fd ps []) (hx : Passes CX0 X E) (I : Inv X pins σ H s) (r : Vals vs us) (h : sp vs H Q E) :
    wpAny (model X.prog X.w) X.A (call (.ref f) us) (EP X pins σ Q) X.xe s := by
  have n : (us ++ []).length = ps.length := by rw [List.append_nil, ← r.length]; exact F.len _ _ _ _ h
  have b := hb s us I.kIn n
  rw [List.append_nil] at b
  refine wpAny_call (codeAny_mono (F.go X.A X.stack s H ⟨us, []⟩ us vs Q E hr I.env0 b r h) fun o s' q => ?_)
  match o, q with
  | .error z, q => exact hx pins σ H s z s' I q
  | .ok (.ret u), q => exact I.after q
/-- f(e, ..) -/
theorem pe_cR (c : CalR X.prog X.w X.K X.mg X.base d x sp) (hr : RoomR e X.A) (hk : d ≤ e) (hg : Gl X x) (ha : PA X (a :: es) t)
    (h1 : (x == ("__debug__" : Str)) = false := by decide) (h2 : starEach (a :: es) X.env = (false, eval a X.env) :: starEach es X.env := by rfl) (h3 : (backTo pos (starEach es X.env)).any (·.1) = false := by rfl) :
    PE X (.Call (.Name x p) (a :: es) [] pos) (tCall sp [] E0 t) := by
  obtain ⟨f, fd, ps, F, hm, kp, b⟩ := c.ex
  refine ⟨fun pins s σ H Q I z => ?_⟩
  refine wpAny_Call_Name_kw (ld_glob I hg hm ?_ h1)
  refine PySem.W.callWith_K (h₀ := X.base) I.ok.mod.kin kp (thn (ha.run pos pins s σ H _ I z) fun us s1 y => ?_) h2 h3
  obtain ⟨vs, H1, J, r, q⟩ := y
  refine ⟨J.kIn, fnR_run F (hr.sub hk) b pass0 J r ?_⟩
  rw [List.append_nil] at q
  exact q
end
section
variable {P : Program} {w : World} {K : PySem.W.Frag} {mg : Str → Option Value} {base : Heap}
/-- the promise of a def that needs one frame more than its body -/
theorem fnR_of {x qual : Str} {st : Stmt} {f : Addr} {fd : FuncData} {N ps : List Str} {d : Nat} {sp : Sp} (F : Fun K x qual st f fd) (S : FnScope N ps (defScope st)) (len : ∀ vs H Q E, sp vs H Q E → vs.length = ps.length)
    (body : ∀ (cdv : Value) (A : Around) (outer : List Env) (s : Shared) (H : Hp) (vs : List V) (Q : VK) (E : XK), RoomR d (A.deeper (envOfC qual (defScope st) s.heap.objs.size f cdv)) → sp vs H Q E →
      ∃ t, PSs (cxOf CX0 P w K mg base N qual (defScope st) f cdv A outer s H E).nox (defBody st) t ∧ t { nx := fun _ H' => Q .non H', rt := Q } (start N vs) H) : FnR P w K mg base (d + 1) f fd ps sp := by
  obtain ⟨oc, od, kV, doc, pm, an, cdv, ct, osl, rfl, lk, hcd⟩ := F.ex
  refine ⟨len, fun A outer s H args us vs Q E hr env bnd rel prom => ?_⟩
  have dpt : A.depth < recursionLimit := by have := hr.dp; omega
  have hK : K.In s.heap := env.mod.kin.keeps fun b o e => (env.bs b o e).1
  have hL : s.heap.NoLimit := env.mod.nolimit.keeps fun b o e => (env.bs b o e).1
  refine codeAny_call_function dpt (hK _ _ lk) rfl S.co S.gen rfl (PySem.W.codeRec_of hK hcd) (bnd _ _ _ _ ?_)
  refine wpAny_newFunctionEnv_cells S.kind (fun y hy => ?_) fun env' he s1 z => ?_
  · obtain ⟨n, v⟩ := y
    exact (S.par n (List.of_mem_zip hy).1).imp id fun q => ⟨q, PySem.W.cellsFrom_some _ _ _ (.inl q)⟩
  · subst he
    refine ⟨hL.keeps z.toInCall.keep, codeAny_func ?_⟩
    obtain ⟨t, ht, hq⟩ := body cdv A outer s H vs Q E (hr.down _) prom
    have J : Inv (cxOf CX0 P w K mg base N qual (defScope st) f cdv A outer s H E) [] (start N vs) H s1 := inv_start S hr.hd env (len _ _ _ _ prom) rel z
    refine wpAny_mono (ht.nox.run [] s1 (start N vs) H _ J hq) (fun fl s' g => ?_) fun _ _ g => g
    match fl, g with
    | .ret u, g =>
      obtain ⟨v, σ', H', J', rv, q⟩ := g
      exact ⟨v, H', J'.os, J'.bare, J'.base, J'.hok, rv, q⟩
    | .next, g =>
      obtain ⟨σ', H', J', q⟩ := g
      exact ⟨.non, H', J'.os, J'.bare, J'.base, J'.hok, rfl, q⟩
    | .brk, ⟨_, _, _, q⟩ => exact False.elim q
    | .cont, ⟨_, _, _, q⟩ => exact False.elim q
end
end
/-! ### the law's own execution: the mathematics -/
inductive LEr where
  | no (i : Int)
  | long
structure Ls where
  taken : Nat
  stand : List Int
  load : Int
  len : Nat
  cnt : Nat
  begun : List (List Nat)
  err : Option LEr
inductive Tk where
  | blk (b : List Stm)
  | one (x : Stm)
  | keep (cs : List Nat) (b : List Stm)
  | again (b : List Stm)
  | call (p : Nat) (r : List Int) (a b : List Stm)
  | proc (p : Nat)
abbrev LR := Option (Option Nat × Ls)
def bitL (bits : List Nat) (s : Ls) : Nat × Ls := if bits.length ≤ s.taken then (0, { s with err := some (.no (bits.length : Int)) }) else (bits.getD s.taken 0, { s with taken := s.taken + 1 })
def lxL (f : Stm → Ls → LR) : List Stm → Ls → LR
  | [], s => some (none, s)
  | x :: r, s => if s.err.isSome then some (none, s) else match f x s with
    | none => none
    | some (some w, s') => some (some w, s')
    | some (none, s') => lxL f r s'
def lxA (bits : List Nat) (f : Ls → LR) : Nat → Ls → LR
  | 0, s => some (none, s)
  | n + 1, s => if (bitL bits s).1 = 0 then some (none, (bitL bits s).2) else match f (bitL bits s).2 with
    | none => none
    | some (w, s') => if w.isSome ∨ s'.err.isSome then some (w, s') else lxA bits f n s'
/-- the kept cells put back -/
def putL (cs : List Nat) (old new : List Int) : List Int := cs.foldl (fun v k => v.set k (old.getD k 0)) new
section
variable (bits : List Nat) (bo : List (List Stm))
/-- one statement, counted -/
def lx1 (f : Tk → Ls → LR) : Stm → Ls → LR
  | .set k r, s => some (none, { s with stand := s.stand.set k (totL r s.stand s.load), len := s.len + 1 })
  | .carry r, s => some (none, { s with load := totL r s.stand s.load, len := s.len + 1 })
  | .keep cs b, s => f (.keep cs b) s
  | .either a b, s => f (.blk (if (bitL bits s).1 = 0 then a else b)) (bitL bits s).2
  | .again b, s => f (.again b) s
  | .call p r a b, s => f (.call p r a b) s
  | .fin w, s => some (some w, s)
def lx : Nat → Tk → Ls → LR
  | 0, _, _ => none
  | d + 1, .blk b, s => lxL (fun x => lx d (.one x)) b s
  | d + 1, .one x, s => if 500 < s.cnt + 1 then some (none, { s with cnt := s.cnt + 1, err := some .long }) else lx1 bits (lx d) x { s with cnt := s.cnt + 1 }
  | d + 1, .keep cs b, s => match lx d (.blk b) s with
    | none => none
    | some (w, s') => some (w, { s' with stand := putL cs s.stand s'.stand, load := s.load })
  | d + 1, .again b, s => lxA bits (lx d (.blk b)) (bits.length + 1) s
  | d + 1, .call p r a b, s => match lx d (.proc p) { s with load := totL r s.stand s.load } with
    | none => none
    | some (none, s') => some (none, { s' with load := s.load })
    | some (some w, s') => lx d (.blk (if w = 0 then a else b)) { s' with load := s.load }
  | d + 1, .proc p, s => if (s.begun.getD p []).getLast? = some s.taken then some (none, { s with err := some (.no (-2)) }) else match lx d (.blk (bo.getD p [])) { s with begun := s.begun.set p (s.begun.getD p [] ++ [s.taken]) } with
    | none => none
    | some (w, s') => if s'.err.isSome then some (none, { s' with begun := s'.begun.set p (s'.begun.getD p []).dropLast }) else some (some (w.getD 0), { s' with begun := s'.begun.set p (s'.begun.getD p []).dropLast })
end
/-! ### it stays well formed -/
structure LOk (c : Nat) (bits : List Nat) (m : Nat) (s : Ls) : Prop where
  tk : s.taken ≤ bits.length
  st : s.stand.length = c
  bl : s.begun.length = m
  inc : ∀ p, (s.begun.getD p []).Pairwise (· < ·) ∧ ∀ x ∈ s.begun.getD p [], x ≤ s.taken
def TkOk (c m : Nat) : Tk → Prop
  | .blk b => ∃ lv, okL c m b lv
  | .one x => ∃ lv, okS c m x lv
  | .keep cs b => (∀ k ∈ cs, k < c) ∧ cs.length ≤ 1000 ∧ ∃ lv, okL c m b lv
  | .again b => ∃ lv, okL c m b lv
  | .call p r a b => p < m ∧ okR c r ∧ (∃ lv, okL c m a lv) ∧ ∃ lv, okL c m b lv
  | .proc p => p < m
/-- what one execution keeps of another's state -/
structure LKeep (c : Nat) (bits : List Nat) (m : Nat) (s s' : Ls) : Prop where
  ok : LOk c bits m s'
  tk : s.taken ≤ s'.taken
  bg : s'.begun = s.begun
section
variable {c m : Nat} {bits : List Nat} {bo : List (List Stm)} {s s' s2 : Ls}
theorem LKeep.refl (h : LOk c bits m s) : LKeep c bits m s s := ⟨h, Nat.le_refl _, rfl⟩
theorem LKeep.trans (a : LKeep c bits m s s') (b : LKeep c bits m s' s2) : LKeep c bits m s s2 := ⟨b.ok, Nat.le_trans a.tk b.tk, b.bg.trans a.bg⟩
theorem putL_len : ∀ (cs : List Nat) (old new : List Int), (putL cs old new).length = new.length
  | [], _, _ => rfl
  | k :: r, old, new => by
    show (putL r old (new.set k (old.getD k 0))).length = _
    rw [putL_len r, List.length_set]
theorem LOk.of (h : LOk c bits m s) {st : List Int} (hs : st.length = s.stand.length) {l : Int} {n k : Nat} {e : Option LEr} : LOk c bits m { s with stand := st, load := l, len := n, cnt := k, err := e } := ⟨h.tk, hs.trans h.st, h.bl, h.inc⟩
theorem bit_keep (h : LOk c bits m s) : LKeep c bits m s (bitL bits s).2 := by
  rw [bitL]
  split
  · exact ⟨⟨h.tk, h.st, h.bl, h.inc⟩, Nat.le_refl _, rfl⟩
  · refine ⟨⟨?_, h.st, h.bl, fun p => ⟨(h.inc p).1, fun x hx => ?_⟩⟩, ?_, rfl⟩
    · show s.taken + 1 ≤ _; omega
    · have := (h.inc p).2 x hx
      show x ≤ s.taken + 1; omega
    · show s.taken ≤ s.taken + 1; omega
theorem lxL_keep {f : Stm → Ls → LR} {lv : Nat} (hf : ∀ x s w s', okS c m x lv → LOk c bits m s → f x s = some (w, s') → LKeep c bits m s s') : ∀ (b : List Stm) (s : Ls) (w : Option Nat) (s' : Ls), okL c m b lv → LOk c bits m s → lxL f b s = some (w, s') → LKeep c bits m s s'
  | [], s, w, s', _, h, e => by
    rw [lxL] at e
    cases e
    exact .refl h
  | x :: r, s, w, s', hb, h, e => by
    rw [okL] at hb
    rw [lxL] at e
    split at e
    · cases e
      exact .refl h
    · split at e
      · cases e
      · rename_i w1 s1 h1
        cases e
        exact hf _ _ _ _ hb.1 h h1
      · rename_i s1 h1
        have k1 := hf _ _ _ _ hb.1 h h1
        exact k1.trans (lxL_keep hf r s1 w s' hb.2 k1.ok e)
theorem lxA_keep {f : Ls → LR} (hf : ∀ s w s', LOk c bits m s → f s = some (w, s') → LKeep c bits m s s') : ∀ (n : Nat) (s : Ls) (w : Option Nat) (s' : Ls), LOk c bits m s → lxA bits f n s = some (w, s') → LKeep c bits m s s'
  | 0, s, w, s', h, e => by
    rw [lxA] at e
    cases e
    exact .refl h
  | n + 1, s, w, s', h, e => by
    rw [lxA] at e
    have k0 := bit_keep h
    split at e
    · cases e
      exact k0
    · split at e
      · cases e
      · rename_i w1 s1 h1
        have k1 := k0.trans (hf _ _ _ k0.ok h1)
        split at e
        · cases e
          exact k1
        · exact k1.trans (lxA_keep hf n s1 w s' k1.ok e)
theorem proc_ok0 {p : Nat} (h : LOk c bits m s) (hp : p < m) (hne : ¬(s.begun.getD p []).getLast? = some s.taken) : LOk c bits m { s with begun := s.begun.set p (s.begun.getD p [] ++ [s.taken]) } := by
  refine ⟨h.tk, h.st, by show (List.set _ _ _).length = m; rw [List.length_set]; exact h.bl, fun q => ?_⟩
  show ((s.begun.set p (s.begun.getD p [] ++ [s.taken])).getD q []).Pairwise _ ∧ ∀ x ∈ (s.begun.set p (s.begun.getD p [] ++ [s.taken])).getD q [], x ≤ s.taken
  rw [getD_set _ _ _ _ _ (by rw [h.bl]; exact hp)]
  split
  · refine ⟨List.pairwise_append.mpr ⟨(h.inc p).1, List.pairwise_singleton _ _, fun x hx y hy => ?_⟩, fun x hx => ?_⟩
    · rw [List.mem_singleton.mp hy]
      have h1 := (h.inc p).2 x hx
      refine Nat.lt_of_le_of_ne h1 fun z => hne ?_
      subst z
      have hnn : s.begun.getD p [] ≠ [] := fun y => by rw [y] at hx; cases hx
      rw [List.getLast?_eq_some_getLast hnn]
      refine congrArg some (Nat.le_antisymm ((h.inc p).2 _ (List.getLast_mem hnn)) ?_)
      rcases Nat.eq_or_lt_of_le (Nat.le_refl s.taken) with _ | _
      · have hpw := (h.inc p).1
        obtain ⟨i, hi, hxi⟩ := List.getElem_of_mem hx
        rw [List.getLast_eq_getElem]
        rcases Nat.lt_or_ge i ((s.begun.getD p []).length - 1) with hl | hl
        · have := List.pairwise_iff_getElem.mp hpw i _ hi (by omega) hl
          omega
        · have hie : i = (s.begun.getD p []).length - 1 := by omega
          subst hie
          omega
      · omega
    · rcases List.mem_append.mp hx with hx | hx
      · exact (h.inc p).2 x hx
      · rw [List.mem_singleton.mp hx]; exact Nat.le_refl _
  · exact h.inc q
theorem proc_ok {p : Nat} {L : List Nat} (h : LOk c bits m s) (hp : p < m) (hne : ¬(s.begun.getD p []).getLast? = some s.taken) (hL : L = s.begun.getD p []) : LOk c bits m { s with begun := s.begun.set p (L ++ [s.taken]) } := by
  subst hL
  exact proc_ok0 h hp hne
theorem lx_keep (hbo : ∀ b ∈ bo, ∃ lv, okL c m b lv) (hm : bo.length = m) (hc : c ≤ 3) : ∀ (d : Nat) (t : Tk) (s : Ls) (w : Option Nat) (s' : Ls), TkOk c m t → LOk c bits m s → lx bits bo d t s = some (w, s') → LKeep c bits m s s'
  | 0, t, s, w, s', _, _, e => by rw [lx] at e; cases e
  | d + 1, .blk b, s, w, s', ⟨lv, hb⟩, h, e => by
    rw [lx] at e
    exact lxL_keep (fun x s w s' hx h e => lx_keep hbo hm hc d (.one x) s w s' ⟨lv, hx⟩ h e) b s w s' hb h e
  | d + 1, .one x, s, w, s', ⟨lv, hx⟩, h, e => by
    rw [lx] at e
    have h1 : LKeep c bits m s { s with cnt := s.cnt + 1 } := ⟨h.of rfl, Nat.le_refl _, rfl⟩
    split at e
    · cases e
      exact ⟨h.of rfl, Nat.le_refl _, rfl⟩
    · cases x with
      | set k r => cases e; exact ⟨h.of (by rw [List.length_set]), Nat.le_refl _, rfl⟩
      | carry r => cases e; exact ⟨h.of rfl, Nat.le_refl _, rfl⟩
      | keep cs b =>
        rw [okS] at hx
        exact h1.trans (lx_keep hbo hm hc d (.keep cs b) _ w s' ⟨hx.2.1.2, by have := asc_len hx.2.1; omega, _, hx.2.2.2⟩ h1.ok e)
      | either a b =>
        rw [okS] at hx
        have k2 := h1.trans (bit_keep h1.ok)
        refine k2.trans (lx_keep hbo hm hc d _ _ w s' ?_ k2.ok e)
        split
        · exact ⟨_, hx.2.2.1⟩
        · exact ⟨_, hx.2.2.2.2⟩
      | again b =>
        rw [okS] at hx
        exact h1.trans (lx_keep hbo hm hc d (.again b) _ w s' ⟨_, hx.2.2⟩ h1.ok e)
      | call p r a b =>
        rw [okS] at hx
        exact h1.trans (lx_keep hbo hm hc d (.call p r a b) _ w s' ⟨hx.2.1, hx.2.2.1, ⟨_, hx.2.2.2.2.1⟩, ⟨_, hx.2.2.2.2.2.2⟩⟩ h1.ok e)
      | fin w1 => cases e; exact h1
  | d + 1, .keep cs b, s, w, s', ⟨_, _, hb⟩, h, e => by
    rw [lx] at e
    split at e
    · cases e
    · rename_i w1 s1 h1
      cases e
      have k1 := lx_keep hbo hm hc d (.blk b) s w s1 hb h h1
      exact ⟨k1.ok.of (putL_len _ _ _), k1.tk, k1.bg⟩
  | d + 1, .again b, s, w, s', hb, h, e => by
    rw [lx] at e
    exact lxA_keep (fun s w s' h e => lx_keep hbo hm hc d (.blk b) s w s' hb h e) _ s w s' h e
  | d + 1, .call p r a b, s, w, s', ⟨hp, _, ha, hb⟩, h, e => by
    rw [lx] at e
    have h0 : LOk c bits m { s with load := totL r s.stand s.load } := h.of rfl
    split at e
    · cases e
    · rename_i s1 h1
      cases e
      have k1 := lx_keep hbo hm hc d (.proc p) _ _ s1 hp h0 h1
      exact ⟨k1.ok.of rfl, k1.tk, k1.bg⟩
    · rename_i w1 s1 h1
      have k1 := lx_keep hbo hm hc d (.proc p) _ _ s1 hp h0 h1
      have k2 : LKeep c bits m s { s1 with load := s.load } := ⟨k1.ok.of rfl, k1.tk, k1.bg⟩
      refine k2.trans (lx_keep hbo hm hc d _ _ w s' ?_ k2.ok e)
      split
      · exact ha
      · exact hb
  | d + 1, .proc p, s, w, s', hp, h, e => by
    rw [lx] at e
    have hp : p < m := hp
    split at e
    · cases e
      exact ⟨h.of rfl, Nat.le_refl _, rfl⟩
    · rename_i hne
      have hbp : ∃ lv, okL c m (bo.getD p []) lv := by
        rw [List.getD_eq_getElem?_getD, List.getElem?_eq_getElem (by omega)]
        exact hbo _ (List.getElem_mem _)
      have h0 : LOk c bits m { s with begun := s.begun.set p (s.begun.getD p [] ++ [s.taken]) } := proc_ok0 h hp hne
      split at e
      · cases e
      · rename_i w1 s1 h1
        have k1 := lx_keep hbo hm hc d (.blk _) _ w1 s1 hbp h0 h1
        have kb : s1.begun.set p (s1.begun.getD p []).dropLast = s.begun := by
          rw [k1.bg]
          show (s.begun.set p (s.begun.getD p [] ++ [s.taken])).set p ((s.begun.set p (s.begun.getD p [] ++ [s.taken])).getD p []).dropLast = s.begun
          rw [getD_set _ _ _ _ _ (by rw [h.bl]; exact hp), if_pos rfl, List.dropLast_concat, List.set_set]
          have hpl : p < s.begun.length := by rw [h.bl]; exact hp
          rw [List.getD_eq_getElem?_getD, List.getElem?_eq_getElem hpl]
          exact List.set_getElem_self hpl
        have fin : LKeep c bits m s { s1 with begun := s1.begun.set p (s1.begun.getD p []).dropLast } := by
          rw [kb]
          refine ⟨⟨k1.ok.tk, k1.ok.st, h.bl, fun q => ⟨(h.inc q).1, fun x hx => ?_⟩⟩, k1.tk, rfl⟩
          have := (h.inc q).2 x hx
          have := k1.tk
          show x ≤ s1.taken
          exact Nat.le_trans (by assumption) this
        split at e
        · cases e; exact fin
        · cases e; exact fin
theorem LOk.begun_len (h : LOk c bits m s) : ∀ l ∈ s.begun, l.length ≤ bits.length + 1 := fun l hl => by
  obtain ⟨p, hp, rfl⟩ := List.getElem_of_mem hl
  have h1 := h.inc p
  rw [List.getD_eq_getElem?_getD, List.getElem?_eq_getElem hp] at h1
  have : ∀ (l : List Nat) (n k : Nat), l.Pairwise (· < ·) → (∀ x ∈ l, k ≤ x ∧ x ≤ n) → l.length ≤ n + 1 - k := by
    intro l
    induction l with
    | nil => intro n k _ _; exact Nat.zero_le _
    | cons a t ih =>
      intro n k hp hb
      rw [List.pairwise_cons] at hp
      have ha := hb a (List.mem_cons_self ..)
      have := ih n (a + 1) hp.2 fun x hx => ⟨hp.1 x hx, (hb x (List.mem_cons_of_mem _ hx)).2⟩
      rw [List.length_cons]
      omega
  have := this _ s.taken 0 h1.1 fun x hx => ⟨Nat.zero_le _, h1.2 x hx⟩
  have := h.tk
  show (s.begun[p]).length ≤ _
  simp only [Option.getD_some] at *
  omega
end
section
variable {c m : Nat} {bits : List Nat} {bo : List (List Stm)}
/-- a way is 0 or 1 -/
theorem lxL_way {f : Stm → Ls → LR} {lv : Nat} (hf : ∀ x s w s', okS c m x lv → f x s = some (some w, s') → w < 2) : ∀ (b : List Stm) (s : Ls) (w : Nat) (s' : Ls), okL c m b lv → lxL f b s = some (some w, s') → w < 2
  | [], s, w, s', _, e => by rw [lxL] at e; cases e
  | x :: r, s, w, s', hb, e => by
    rw [okL] at hb
    rw [lxL] at e
    split at e
    · cases e
    · split at e
      · cases e
      · rename_i w1 s1 h1
        cases e
        exact hf _ _ _ _ hb.1 h1
      · exact lxL_way hf r _ w s' hb.2 e
theorem lxA_way {f : Ls → LR} (hf : ∀ s w s', f s = some (some w, s') → w < 2) : ∀ (n : Nat) (s : Ls) (w : Nat) (s' : Ls), lxA bits f n s = some (some w, s') → w < 2
  | 0, s, w, s', e => by rw [lxA] at e; cases e
  | n + 1, s, w, s', e => by
    rw [lxA] at e
    split at e
    · cases e
    · split at e
      · cases e
      · rename_i w1 s1 h1
        split at e
        · cases e
          exact hf _ _ _ h1
        · exact lxA_way hf n _ w s' e
theorem lx_way (hbo : ∀ b ∈ bo, ∃ lv, okL c m b lv) (hm : bo.length = m) (hc : c ≤ 3) : ∀ (d : Nat) (t : Tk) (s : Ls) (w : Nat) (s' : Ls), TkOk c m t → lx bits bo d t s = some (some w, s') → w < 2
  | 0, t, s, w, s', _, e => by rw [lx] at e; cases e
  | d + 1, .blk b, s, w, s', ⟨lv, hb⟩, e => by
    rw [lx] at e
    exact lxL_way (fun x s w s' hx e => lx_way hbo hm hc d (.one x) s w s' ⟨lv, hx⟩ e) b s w s' hb e
  | d + 1, .one x, s, w, s', ⟨lv, hx⟩, e => by
    rw [lx] at e
    split at e
    · cases e
    · cases x with
      | set k r => cases e
      | carry r => cases e
      | keep cs b =>
        rw [okS] at hx
        exact lx_way hbo hm hc d (.keep cs b) _ w s' ⟨hx.2.1.2, by have := asc_len hx.2.1; omega, _, hx.2.2.2⟩ e
      | either a b =>
        rw [okS] at hx
        refine lx_way hbo hm hc d _ _ w s' ?_ e
        split
        · exact ⟨_, hx.2.2.1⟩
        · exact ⟨_, hx.2.2.2.2⟩
      | again b =>
        rw [okS] at hx
        exact lx_way hbo hm hc d (.again b) _ w s' ⟨_, hx.2.2⟩ e
      | call p r a b =>
        rw [okS] at hx
        exact lx_way hbo hm hc d (.call p r a b) _ w s' ⟨hx.2.1, hx.2.2.1, ⟨_, hx.2.2.2.2.1⟩, ⟨_, hx.2.2.2.2.2.2⟩⟩ e
      | fin w1 =>
        rw [okS] at hx
        cases e
        exact hx
  | d + 1, .keep cs b, s, w, s', ⟨_, _, hb⟩, e => by
    rw [lx] at e
    split at e
    · cases e
    · rename_i w1 s1 h1
      cases e
      exact lx_way hbo hm hc d (.blk b) s w s1 hb h1
  | d + 1, .again b, s, w, s', hb, e => by
    rw [lx] at e
    exact lxA_way (fun s w s' e => lx_way hbo hm hc d (.blk b) s w s' hb e) _ s w s' e
  | d + 1, .call p r a b, s, w, s', ⟨hp, _, ha, hb⟩, e => by
    rw [lx] at e
    split at e
    · cases e
    · cases e
    · refine lx_way hbo hm hc d _ _ w s' ?_ e
      split
      · exact ha
      · exact hb
  | d + 1, .proc p, s, w, s', hp, e => by
    rw [lx] at e
    have hp : p < m := hp
    split at e
    · cases e
    · have hbp : ∃ lv, okL c m (bo.getD p []) lv := by
        rw [List.getD_eq_getElem?_getD, List.getElem?_eq_getElem (by omega)]
        exact hbo _ (List.getElem_mem _)
      split at e
      · cases e
      · rename_i w1 s1 h1
        split at e
        · cases e
        · cases e
          cases w1 with
          | none => decide
          | some w2 => exact lx_way hbo hm hc d (.blk _) _ w2 s1 hbp h1
end
abbrev s_law_bit : Stmt := topS 62
theorem sc_law_bit : FnScope ["state"] ["state"] (defScope s_law_bit) := ⟨rfl, rfl, rfl, by decide +kernel, rfl, by decide +kernel, by decide +kernel⟩
abbrev s_law_value : Stmt := topS 63
theorem sc_law_value : FnScope ["row", "state", "total", "k"] ["row", "state"] (defScope s_law_value) := ⟨rfl, rfl, rfl, by decide +kernel, rfl, by decide +kernel, by decide +kernel⟩
abbrev s_law_execute : Stmt := topS 64
theorem sc_law_execute : FnScope ["bodies", "state", "block", "statement", "way"] ["bodies", "state", "block"] (defScope s_law_execute) := ⟨rfl, rfl, rfl, by decide +kernel, rfl, by decide +kernel, by decide +kernel⟩
abbrev s_law_execute_one : Stmt := topS 65
theorem sc_law_execute_one : FnScope ["bodies", "state", "statement", "stand"] ["bodies", "state", "statement"] (defScope s_law_execute_one) := ⟨rfl, rfl, rfl, by decide +kernel, rfl, by decide +kernel, by decide +kernel⟩
abbrev s_law_execute_keep : Stmt := topS 66
theorem sc_law_execute_keep : FnScope ["bodies", "state", "kept", "block", "before", "load", "way", "stand", "cell"] ["bodies", "state", "kept", "block"] (defScope s_law_execute_keep) := ⟨rfl, rfl, rfl, by decide +kernel, rfl, by decide +kernel, by decide +kernel⟩
abbrev s_law_execute_again : Stmt := topS 67
theorem sc_law_execute_again : FnScope ["bodies", "state", "block", "turn", "way"] ["bodies", "state", "block"] (defScope s_law_execute_again) := ⟨rfl, rfl, rfl, by decide +kernel, rfl, by decide +kernel, by decide +kernel⟩
abbrev s_law_execute_call : Stmt := topS 68
theorem sc_law_execute_call : FnScope ["bodies", "state", "statement", "load", "way"] ["bodies", "state", "statement"] (defScope s_law_execute_call) := ⟨rfl, rfl, rfl, by decide +kernel, rfl, by decide +kernel, by decide +kernel⟩
abbrev s_law_execute_procedure : Stmt := topS 69
theorem sc_law_execute_procedure : FnScope ["bodies", "state", "procedure", "begins", "way"] ["bodies", "state", "procedure"] (defScope s_law_execute_procedure) := ⟨rfl, rfl, rfl, by decide +kernel, rfl, by decide +kernel, by decide +kernel⟩
abbrev s_law_played : Stmt := topS 70
theorem sc_law_played : FnScope ["bodies", "procedure", "bits", "stand", "load", "state", "way", "body"] ["bodies", "procedure", "bits", "stand", "load"] (defScope s_law_played) := ⟨rfl, rfl, rfl, by decide +kernel, rfl, by decide +kernel, by decide +kernel⟩
/-! ### the law's own execution: its state, bits, values -/
def erV : Option LEr → V
  | none => .non
  | some (.no i) => .int i
  | some .long => .str "long"
def wyV : Option Nat → V
  | none => .non
  | some w => .int (w : Int)
def stO (bt N G : Addr) (s : Ls) : List V := [.ref bt, .int (s.taken : Int), .ref N, .int s.load, .int (s.len : Int), .int (s.cnt : Int), .ref G, erV s.err]
def bgL : List Addr → List (List Nat) → OL
  | g :: gs, l :: ls => (g, .lst (l.map nV)) :: bgL gs ls
  | _, _ => []
structure LRep (K : PySem.W.Frag) (Hd H : Hp) (S bt G : Addr) (gs : List Addr) (bits : List Nat) (s : Ls) (N : Addr) : Prop where
  own : Own Hd ((S, .lst (stO bt N G s)) :: bgL gs s.begun) H
  hN : SqL K Hd N (s.stand.map V.int)
  hb : SqL K Hd bt (bits.map nV)
  hG : SqL K Hd G (gs.map V.ref)
  lg : gs.length = s.begun.length
section
variable {P : Program} {w : World} {K : PySem.W.Frag} {mg : Str → Option Value} {base : Heap} {σ : L2.St} {Hd Hd' H H' H0 : Hp}
variable {S bt G N : Addr} {gs : List Addr} {bits : List Nat} {s s2 : Ls} {c m : Nat}
theorem eu_tupL {te : TE} {a : Addr} {xs : List V} (h : Ev te σ H (.ref a)) (hs : SqL K H a xs) : EvU (tCB (fun xs H Q => ∃ p ys, xs = [V.ref p] ∧ ((SqL K H p ys ∧ ∀ l, H l = none → Q (.ref l) (upd H l (.tup ys))) ∨ (SqT K H p ys ∧ Q (.ref p) H))) (tCons te tNil)) σ H xs := fun H0 e Q q => h H0 e _ fun H1 e1 =>
  ⟨a, xs, rfl, .inl ⟨ex_l (e.trans e1) hs, fun l hl => q l _ (fresh_back e1 hl) (e1.trans (Ex.new hl)) upd_same⟩⟩
theorem el_listS {ta : TE} {p : Addr} {xs : List V} (ha : Ev ta σ H (.ref p)) (h : SqL K H p xs ∨ SqT K H p xs) : EvL (tCB (rListS K) (tCons ta tNil)) σ H xs := fun H1 e Q q =>
  ha H1 e _ fun H2 e2 => ⟨p, xs, rfl, h.imp (ex_l (e.trans e2)) (ex_t (e.trans e2)), fun l hl => q l _ (fresh_back e2 hl) (e2.trans (Ex.new hl)) upd_same⟩
theorem okL_all {c m lv : Nat} : ∀ {b : List Stm}, okL c m b lv → ∀ s ∈ b, okS c m s lv
  | s :: r, h, x, hx => by
    rw [okL] at h
    rcases List.mem_cons.mp hx with rfl | hx
    · exact h.1
    · exact okL_all h.2 x hx
theorem toDs_at : ∀ (b : List Stm) (i : Nat), (toDs b)[i]? = b[i]?.map toD
  | [], _ => rfl
  | s :: r, 0 => by rw [toDs]; rfl
  | s :: r, i + 1 => by rw [toDs, List.getElem?_cons_succ, List.getElem?_cons_succ, toDs_at r i]
theorem LRep.get (r : LRep K Hd H S bt G gs bits s N) : H S = some (.lst (stO bt N G s)) := r.own.get (List.mem_cons_self ..)
theorem LRep.mono (r : LRep K Hd H S bt G gs bits s N) (e : Ex H H') : LRep K Hd H' S bt G gs bits s N := ⟨r.own.mono e, r.hN, r.hb, r.hG, r.lg⟩
/-- the state's list is written anew -/
theorem LRep.put {N2 : Addr} {xs : List V} (r : LRep K Hd H S bt G gs bits s N) (hx : xs = stO bt N2 G s2) (hbg : s2.begun = s.begun) (h2 : SqL K Hd N2 (s2.stand.map V.int)) : LRep K Hd (upd H S (.lst xs)) S bt G gs bits s2 N2 := by
  subst hx
  refine ⟨?_, h2, r.hb, r.hG, by rw [hbg]; exact r.lg⟩
  have o := r.own.upd (La := []) (.lst (stO bt N2 G s2))
  rw [hbg]
  exact o
/-- more stands for good -/
theorem LRep.up (r : LRep K Hd H S bt G gs bits s N) (e : Ex Hd Hd') (o : Own Hd' ((S, .lst (stO bt N G s)) :: bgL gs s.begun) H') : LRep K Hd' H' S bt G gs bits s N := ⟨o, ex_l e r.hN, ex_l e r.hb, ex_l e r.hG, r.lg⟩
theorem LRep.grow {a : Addr} {o : HO} (r : LRep K Hd H S bt G gs bits s N) (e : Ex H H') (n : H a = none) (ha : H' a = some o) : LRep K (upd Hd a o) H' S bt G gs bits s N ∧ Ex Hd (upd Hd a o) := by
  obtain ⟨o1, e1⟩ := r.own.grow e n ha
  exact ⟨r.up e1 o1, e1⟩
/-- an item of the state -/
theorem ev_st {te : TE} {j : Nat} {v : V} (r : LRep K Hd H S bt G gs bits s N) (h : Ev te σ H (.ref S)) (hx : (stO bt N G s)[j]? = some v) : Ev (tOp (rIxL K) te (tC (.int (j : Int)))) σ H v := ev_op h ev_c (rv_ixL (sq_of r.get) (atI_nat hx))
/-! #### a bit -/
def spLBit (K : PySem.W.Frag) : Sp := fun vs H Q _ => ∃ (S bt G N : Addr) (gs : List Addr) (bits : List Nat) (s : Ls) (Hd : Hp), vs = [.ref S] ∧ LRep K Hd H S bt G gs bits s N ∧ ∀ H', LRep K Hd H' S bt G gs bits (bitL bits s).2 N → Q (.int ((bitL bits s).1 : Int)) H'
theorem ok_lbit {f : Addr} {fd : FuncData} {k : Nat} (F : Fun K "_law_bit" "_law_bit" s_law_bit f fd) (z_len : mg "len" = none) : FnOk P w K mg base CX0 (k + 1) f fd ["state"] (spLBit K) := by
  have sc := sc_law_bit
  refine F.ok sc (fun vs H Q E h => ?_) (fun cdv A outer s H vs Q E hr h => ?_)
  · obtain ⟨S, bt, G, N, gs, bits, s, Hd, rfl, _⟩ := h
    rfl
  · obtain ⟨S, bt, G, N, gs, bits, s, Hd, rfl, r, q⟩ := h
    refine ⟨_, (pss_cons (ps_if (pt_cmpR op_ge (pe_ix ix_list (pv 0) pe_int (fun _ _ => rfl)) (pe_callB call_len_seq (by rfl) z_len (by decide +kernel) (pa_cons (pe_ix ix_list (pv 0) pe_int (fun _ _ => rfl)) pa_nil)) (nomark _))
      (pss_cons (ps_asg (pe_callB call_len_seq (by rfl) z_len (by decide +kernel) (pa_cons (pe_ix ix_list (pv 0) pe_int (fun _ _ => rfl)) pa_nil)) (pg_sub (pv 0) pe_int set_list))
      (pss_one (ps_ret pe_int)))
      pss_nil)
      (pss_cons (ps_asg (pe_op op_add (pe_ix ix_list (pv 0) pe_int (fun _ _ => rfl)) pe_int) (pg_sub (pv 0) pe_int set_list))
      (pss_one (ps_ret (pe_ix ix_list (pe_ix ix_list (pv 0) pe_int (fun _ _ => rfl)) (pe_op op_sub (pe_ix ix_list (pv 0) pe_int (fun _ _ => rfl)) pe_int) (fun _ _ => rfl)))))), ?_⟩
    have lb : ∀ {H1 : Hp}, Ex H H1 → Ev (tCB (rLenS K) (tCons (tOp (rIxL K) (tVar 0) (tC (.int 0))) tNil)) [some (.ref S)] H1 (.int (bits.length : Int)) := fun e => ev_is (ev_lenS (ev_st (j := 0) (r.mono e) (ev_var rfl) rfl) (.inl (ex_l (r.mono e).own.ex r.hb))) (by rw [List.length_map])
    refine q_when (b := decide (bits.length ≤ s.taken)) (et_is (et_test (ev_op (ev_st (j := 1) r (ev_var rfl) rfl) (lb (Ex.refl _)) rv_I0)) (by simp)) (fun hb H1 e1 => ?_) (fun hb H1 e1 => ?_)
    · have hb := of_decide_eq_true hb
      have r1 := r.mono e1
      refine q_setL (j := 7) r1.get (lb e1) (ev_var rfl) ev_c (by show 7 < 8; decide) fun H2 e2 => ?_
      have r2 := (r1.mono e2).put (s2 := { s with err := some (.no (bits.length : Int)) }) (N2 := N) (xs := (stO bt N G s).set 7 (.int (bits.length : Int))) rfl rfl r.hN
      refine s_ret ev_c fun H3 e3 => ?_
      have := q H3
      rw [bitL, if_pos hb] at this
      exact this (r2.mono e3)
    · have hb := of_decide_eq_false hb
      have r1 := r.mono e1
      refine q_setL (j := 1) r1.get (ev_is (ev_op (ev_st (j := 1) r1 (ev_var rfl) rfl) ev_c rv_I0) (show V.int ((s.taken : Int) + 1) = V.int ((s.taken + 1 : Nat) : Int) by rw [Int.natCast_add]; rfl)) (ev_var rfl) ev_c (by show 1 < 8; decide) fun H2 e2 => ?_
      have r2 := (r1.mono e2).put (s2 := { s with taken := s.taken + 1 }) (N2 := N) (xs := (stO bt N G s).set 1 (.int ((s.taken + 1 : Nat) : Int))) rfl rfl r.hN
      have hlt : s.taken < bits.length := by omega
      refine s_ret (ev_op (ev_st (j := 0) r2 (ev_var rfl) rfl) (ev_op (ev_st (j := 1) r2 (ev_var rfl) rfl) ev_c rv_I0) (z := .int ((bits.getD s.taken 0 : Nat) : Int)) (rv_ixL (ex_l r2.own.ex r.hb) (at_of (j := s.taken) (by show ((s.taken + 1 : Nat) : Int) - 1 = _; omega) (by rw [List.getElem?_map, List.getElem?_eq_getElem hlt, List.getD_eq_getElem?_getD, List.getElem?_eq_getElem hlt]; rfl)))) fun H3 e3 => ?_
      have := q H3
      rw [bitL, if_neg hb] at this
      exact this (r2.mono e3)
/-! #### the value of a row -/
theorem tot_step (r v : List Int) (l : Int) : ∀ n, n ≤ v.length → r.getD 0 0 + r.getD (r.length - 1) 0 * l + ((List.range (n + 1)).map fun k => r.getD (1 + k) 0 * v.getD k 0).sum = (r.getD 0 0 + r.getD (r.length - 1) 0 * l + ((List.range n).map fun k => r.getD (1 + k) 0 * v.getD k 0).sum) + r.getD (1 + n) 0 * v.getD n 0 := fun n _ => by
  rw [List.range_succ, List.map_append, List.sum_append, List.map_singleton, List.sum_singleton]
  omega
def spLVal (K : PySem.W.Frag) : Sp := fun vs H Q _ => ∃ (R S bt G N : Addr) (gs : List Addr) (bits : List Nat) (s : Ls) (Hd : Hp) (r : List Int) (c : Nat), vs = [.ref R, .ref S] ∧ LRep K Hd H S bt G gs bits s N ∧ SqL K Hd R (r.map V.int) ∧ okR c r ∧ s.stand.length = c ∧ c ≤ 3 ∧ ∀ H', Ex H H' → Q (.int (totL r s.stand s.load)) H'
theorem row_small {c : Nat} {r : List Int} (h : okR c r) (j : Nat) : -9 ≤ r.getD j 0 ∧ r.getD j 0 ≤ 9 := by
  rw [List.getD_eq_getElem?_getD]
  cases hj : r[j]? with
  | none => exact ⟨by decide, by decide⟩
  | some y => exact h.2 y (List.mem_of_getElem? hj)
theorem getIq {r : List Int} {j : Nat} (h : j < r.length) : (r.map V.int)[j]? = some (V.int (r.getD j 0)) := by
  rw [List.getElem?_map, List.getElem?_eq_getElem h, List.getD_eq_getElem?_getD, List.getElem?_eq_getElem h]; rfl
theorem ok_lvalue {f : Addr} {fd : FuncData} {k : Nat} (F : Fun K "_law_value" "_law_value" s_law_value f fd) (z_len : mg "len" = none) (z_range : mg "range" = none) : FnOk P w K mg base CX0 (k + 1) f fd ["row", "state"] (spLVal K) := by
  have sc := sc_law_value
  refine F.ok sc (fun vs H Q E h => ?_) (fun cdv A outer s H vs Q E hr h => ?_)
  · obtain ⟨R, S, bt, G, N, gs, bits, s, Hd, r, c, rfl, _⟩ := h
    rfl
  · obtain ⟨R, S, bt, G, N, gs, bits, s, Hd, r, c, rfl, rp, hR, hok, hst, hc, q⟩ := h
    refine ⟨_, (pss_cons (ps_set (i := 2) sc.nd rfl (by first | exact Or.inl rfl | exact Or.inr rfl) (pe_op op_add (pe_ix ix_list (pv 0) pe_int (fun _ _ => rfl)) (pe_op op_mul (pe_ix ix_list (pv 0) (pe_op op_sub (pe_callB call_len_seq (by rfl) z_len (by decide +kernel) (pa_cons (pv 0) pa_nil)) pe_int) (fun _ _ => rfl)) (pe_ix ix_list (pv 1) pe_int (fun _ _ => rfl)))))
      (pss_cons (ps_for PassesOwn.never rfl (pi_range1 (by rfl) z_range (pa_cons (pe_callB call_len_seq (by rfl) z_len (by decide +kernel) (pa_cons (pe_ix ix_list (pv 1) pe_int (fun _ _ => rfl)) pa_nil)) pa_nil)) (pg_name (i := 3) sc.nd rfl (by first | exact Or.inl rfl | exact Or.inr rfl))
      (pss_one (ps_set (i := 2) sc.nd rfl (by first | exact Or.inl rfl | exact Or.inr rfl) (pe_op op_add (pv 2) (pe_op op_mul (pe_ix ix_list (pv 0) (pe_op op_add pe_int (pv 3)) (fun _ _ => rfl)) (pe_ix ix_list (pe_ix ix_list (pv 1) pe_int (fun _ _ => rfl)) (pv 3) (fun _ _ => rfl)))))))
      (pss_one (ps_ret (pv 2))))), ?_⟩
    have hrl : r.length = c + 2 := hok.1
    have hR1 : ∀ {H1 : Hp}, Ex H H1 → SqL K H1 R (r.map V.int) := fun e => ex_l (rp.own.ex.trans e) hR
    refine q_asg (v := .int (r.getD 0 0 + r.getD (r.length - 1) 0 * s.load)) (ev_op (ev_op (ev_var rfl) ev_c (rv_ixL (hR1 (Ex.refl _)) (atI_nat (j := 0) (getIq (by omega))))) (ev_op (ev_op (ev_var rfl) (ev_is (ev_op (ev_lenS (ev_var rfl) (.inl (hR1 (Ex.refl _)))) ev_c rv_I0) (show V.int (((r.map V.int).length : Int) - 1) = V.int ((r.length - 1 : Nat) : Int) by rw [List.length_map]; congr 1; omega)) (rv_ixL (hR1 (Ex.refl _)) (atI_nat (getIq (by omega))))) (ev_st (j := 3) rp (ev_var rfl) rfl) (rv_I (.inl (small_mul (b := s.load) (row_small hok _))))) rv_I0) fun H1 e1 => ?_
    refine q_forR1 (n := (c : Int)) (ea_cons (ev_is (ev_lenS (ev_st (j := 2) (rp.mono e1) (ev_var rfl) rfl) (.inl (ex_l (rp.mono e1).own.ex rp.hN))) (by rw [List.length_map, hst])) ea_nil) ⟨by omega, by omega⟩ (fun i σ' H' => ∃ y : Option V, σ' = [some (.ref R), some (.ref S), some (.int (r.getD 0 0 + r.getD (r.length - 1) 0 * s.load + ((List.range i).map fun k => r.getD (1 + k) 0 * s.stand.getD k 0).sum)), y] ∧ Ex H H')
      (fun H2 e2 => ⟨none, by rw [List.range_zero, List.map_nil, List.sum_nil, Int.add_zero]; rfl, e1.trans e2⟩) (fun i σ' H' hi hP => ?_) (fun σ' H' hP => ?_)
    · obtain ⟨y, rfl, e⟩ := hP
      dsimp only
      have r1 := rp.mono e
      have hic : i < c := by omega
      refine s_asg (ev_op (ev_var rfl) (ev_op (ev_op (ev_var rfl) (ev_is (ev_op ev_c (ev_var rfl) rv_I0) (show V.int (1 + (i : Int)) = V.int ((1 + i : Nat) : Int) by rw [Int.natCast_add]; rfl)) (rv_ixL (hR1 e) (atI_nat (getIq (by omega))))) (ev_op (ev_st (j := 2) r1 (ev_var rfl) rfl) (ev_var rfl) (rv_ixL (ex_l r1.own.ex rp.hN) (atI_nat (getIq (by omega))))) (rv_I (.inl (small_mul (b := s.stand.getD i 0) (row_small hok _))))) rv_I0) fun H2 e2 => ?_
      exact ⟨_, by rw [tot_step _ _ _ i (by omega)]; rfl, e.trans e2⟩
    · obtain ⟨y, rfl, e⟩ := hP
      refine s_ret (ev_var rfl) fun H2 e2 => ?_
      have := q H2 (e.trans e2)
      rw [totL, hst] at this
      exact this
end
/-! ### the law's own execution runs -/
def argOk (K : PySem.W.Frag) (Hd : Hp) : Tk → List V → Prop
  | .blk b, as => ∃ v, as = [v] ∧ Dp K Hd v (bD b)
  | .one x, as => ∃ v, as = [v] ∧ Dp K Hd v (toD x)
  | .keep cs b, as => ∃ kv v, as = [kv, v] ∧ Dp K Hd kv (LI (cs.map (Nat.cast : Nat → Int))) ∧ Dp K Hd v (bD b)
  | .again b, as => ∃ v, as = [v] ∧ Dp K Hd v (bD b)
  | .call p r a b, as => ∃ v, as = [v] ∧ Dp K Hd v (toD (.call p r a b))
  | .proc p, as => as = [.int (p : Int)]
def kdT : Tk → Nat
  | .blk _ => 0
  | .one _ => 1
  | .keep _ _ => 2
  | .again _ => 3
  | .call _ _ _ _ => 4
  | .proc _ => 5
theorem arg_len {K : PySem.W.Frag} {Hd : Hp} {t : Tk} {as : List V} (h : argOk K Hd t as) : as.length = if kdT t = 2 then 2 else 1 := by
  cases t with
  | keep cs b => obtain ⟨_, _, rfl, _⟩ := h; rfl
  | proc p => rw [show as = [.int (p : Int)] from h]; rfl
  | call p r a b => obtain ⟨_, rfl, _⟩ := h; rfl
  | blk b => obtain ⟨_, rfl, _⟩ := h; rfl
  | one x => obtain ⟨_, rfl, _⟩ := h; rfl
  | again b => obtain ⟨_, rfl, _⟩ := h; rfl
structure LEnv (K : PySem.W.Frag) (Hd : Hp) (bov : V) (bo : List (List Stm)) (bits : List Nat) (c m : Nat) : Prop where
  dv : Dp K Hd bov (toB bo)
  ok : ∀ b ∈ bo, ∃ lv, okL c m b lv
  ln : bo.length = m
  c3 : c ≤ 3
  m3 : m ≤ 3
  b1 : ∀ b ∈ bits, b ≤ 1
  bl : bits.length ≤ 1000
def spLx (K : PySem.W.Frag) (d kk : Nat) : Sp := fun vs H Q _ => ∃ (bov : V) (S bt G N : Addr) (gs : List Addr) (bits : List Nat) (s : Ls) (Hd : Hp) (bo : List (List Stm)) (c m : Nat) (t : Tk) (as : List V) (w : Option Nat) (s' : Ls), vs = bov :: .ref S :: as ∧ kdT t = kk ∧ argOk K Hd t as ∧ LEnv K Hd bov bo bits c m ∧ LRep K Hd H S bt G gs bits s N ∧ LOk c bits m s ∧ TkOk c m t ∧ lx bits bo d t s = some (w, s') ∧
  ∀ Hd' H' N', Ex Hd Hd' → LRep K Hd' H' S bt G gs bits s' N' → Q (wyV w) H'
section
variable {P : Program} {w : World} {K : PySem.W.Frag} {mg : Str → Option Value} {base : Heap} {σ : L2.St} {Hd Hd' H H' H0 : Hp}
variable {S bt G N : Addr} {gs : List Addr} {bits : List Nat} {s s2 : Ls} {c m : Nat} {bov : V} {bo : List (List Stm)}
theorem LEnv.ex (h : LEnv K Hd bov bo bits c m) (e : Ex Hd Hd') : LEnv K Hd' bov bo bits c m := ⟨dp_ex e _ _ h.dv, h.ok, h.ln, h.c3, h.m3, h.b1, h.bl⟩
theorem s_retC {ta : TA} {vs : List V} {sp : Sp} {E : XK} {D : Ends} (h : EvA ta σ H vs) (k : ∀ H1, Ex H H1 → sp (vs ++ []) H1 D.rt E) : tRet (tCall sp [] E ta) D σ H := h H (Ex.refl H) _ fun H1 e => k H1 e
theorem q_asgC {ta : TA} {vs : List V} {sp : Sp} {E : XK} {D : Ends} {i : Nat} {tz : TS} (h : EvA ta σ H vs) (k : ∀ H1, Ex H H1 → sp (vs ++ []) H1 (fun v H2 => tz D (σ.set i (some v)) H2) E) : tSeq (tAsg (tCall sp [] E ta) (gName i)) tz D σ H := h H (Ex.refl H) _ fun H1 e => k H1 e
/-- the call of a part of the execution -/
theorem lx_call {d kk : Nat} {t : Tk} {as : List V} {w : Option Nat} {s' : Ls} {Q : VK} {E : XK} (hk : kdT t = kk) (ha : argOk K Hd t as) (he : LEnv K Hd bov bo bits c m) (r : LRep K Hd H S bt G gs bits s N) (ho : LOk c bits m s) (ht : TkOk c m t) (hx : lx bits bo d t s = some (w, s'))
    (q : ∀ Hd' H' N', Ex Hd Hd' → LRep K Hd' H' S bt G gs bits s' N' → LKeep c bits m s s' → Q (wyV w) H') : spLx K d kk (bov :: .ref S :: as) H Q E :=
  ⟨bov, S, bt, G, N, gs, bits, s, Hd, bo, c, m, t, as, w, s', rfl, hk, ha, he, r, ho, ht, hx, fun Hd' H' N' e r' => q Hd' H' N' e r' (lx_keep he.ok he.ln he.c3 d t s w s' ht ho hx)⟩
theorem er_none (s : Ls) : decide (erV s.err = .non) = s.err.isNone := by
  cases s.err with
  | none => rfl
  | some e => cases e <;> rfl
theorem ev_notN {te : TE} {x : V} (h : Ev te σ H x) : Ev (tOp (fun x y H Q => y = .non ∧ Q (.bl (!decide (x = .non))) H) te (tC .non)) σ H (.bl (!decide (x = .non))) := ev_op h ev_c (rv_val fun _ _ _ q => ⟨rfl, q⟩)
theorem er_some (s : Ls) : (!decide (erV s.err = .non)) = s.err.isSome := by
  cases s.err with
  | none => rfl
  | some e => cases e <;> rfl
theorem wy_some (w : Option Nat) : (!decide (wyV w = .non)) = w.isSome := by cases w <;> rfl
theorem ok_lexec {f : Addr} {fd : FuncData} {d : Nat} (F : Fun K "_law_execute" "_law_execute" s_law_execute f fd) (C_law_execute_one : CalR P w K mg base d "_law_execute_one" (spLx K d 1)) : FnR P w K mg base (d + 1) f fd ["bodies", "state", "block"] (spLx K (d + 1) 0) := by
  have sc := sc_law_execute
  refine fnR_of F sc (fun vs H Q E h => ?_) (fun cdv A outer s H vs Q E hrr h => ?_)
  · obtain ⟨bov, S, bt, G, N, gs, bits, s, Hd, bo, c, m, t, as, w, s', rfl, hk, ha, _⟩ := h
    show as.length + 1 + 1 = 3
    rw [arg_len ha, hk]; rfl
  · obtain ⟨bov, S, bt, G, N, gs, bits, s, Hd, bo, c, m, t, as, w, s', rfl, hk, ha, he, r, ho, ht, hx, q⟩ := h
    cases t with
    | blk b =>
      obtain ⟨v, rfl, hv⟩ := ha
      obtain ⟨lv, hb⟩ := ht
      rw [lx] at hx
      refine ⟨_, (pss_cons (ps_for PassesOwn.never rfl (pi_list (pv 2)) (pg_name (i := 3) sc.nd rfl (by first | exact Or.inl rfl | exact Or.inr rfl))
      (pss_cons (ps_if (pt_cmpR op_notN (pe_ix ix_list (pv 1) pe_int (fun _ _ => rfl)) pe_non (nomark _))
      (pss_one (ps_ret pe_non))
      pss_nil)
      (pss_cons (ps_set (i := 4) sc.nd rfl (by first | exact Or.inl rfl | exact Or.inr rfl) (pe_cR C_law_execute_one hrr (by omega) (by rfl) (pa_cons (pv 0) (pa_cons (pv 1) (pa_cons (pv 3) pa_nil)))))
      (pss_one (ps_if (pt_cmpR op_notN (pv 4) pe_non (nomark _))
      (pss_one (ps_ret (pv 4)))
      pss_nil)))))
      (pss_one (ps_ret pe_non))), ?_⟩
      obtain ⟨B, xs, rfl, hB, hxs⟩ := dp_lst hv
      have lxs : xs.length = b.length := by rw [dpa_len hxs, toDs_len]
      refine q_forLn (ev_var rfl) (ex_l r.own.ex hB) (fun i σ' H' => ∃ (y3 y4 : Option V) (Hd' : Hp) (s1 : Ls) (N1 : Addr), σ' = [some bov, some (.ref S), some (.ref B), y3, y4] ∧ Ex Hd Hd' ∧ LRep K Hd' H' S bt G gs bits s1 N1 ∧ LOk c bits m s1 ∧ lxL (fun x => lx bits bo d (.one x)) (b.drop i) s1 = some (w, s'))
        (fun H1 e1 => ⟨none, none, Hd, s, N, rfl, Ex.refl _, r.mono e1, ho, hx⟩) (fun i σ' H' _ ⟨_, _, Hd', _, _, _, e, r', _⟩ => ex_l (e.trans r'.own.ex) hB) (fun i x σ' H' hxi hP => ?_) (fun σ' H' hP => ?_)
      · obtain ⟨y3, y4, Hd1, s1, N1, rfl, e1, r1, ho1, hx1⟩ := hP
        have hi : i < b.length := by have := (List.getElem?_eq_some_iff.mp hxi).1; omega
        have hget := List.getElem?_eq_getElem hi
        have hox := okL_get hb hget
        rw [List.drop_eq_getElem_cons hi, lxL] at hx1
        obtain ⟨d1, hd1, dx⟩ := dpa_at2 hxs hxi
        rw [toDs_at, hget] at hd1
        obtain rfl := Option.some.inj hd1
        generalize b[i] = st at hox hx1 dx
        dsimp only
        refine q_when (b := s1.err.isSome) (et_is (et_test (ev_notN (ev_st (j := 7) r1 (ev_var rfl) rfl))) (er_some s1)) (fun hb1 H2 e2 => ?_) (fun hb1 H2 e2 => ?_)
        · rw [if_pos hb1] at hx1
          cases hx1
          exact s_ret ev_c fun H3 e3 => q Hd1 H3 N1 e1 ((r1.mono e2).mono e3)
        · rw [if_neg (by rw [hb1]; exact Bool.false_ne_true)] at hx1
          refine q_asgC (ea_cons (ev_var rfl) (ea_cons (ev_var rfl) (ea_cons (ev_var rfl) ea_nil))) fun H3 e3 => ?_
          have r3 := (r1.mono e2).mono e3
          cases hf : lx bits bo d (.one st) s1 with
          | none => rw [hf] at hx1; cases hx1
          | some res =>
            obtain ⟨w1, s2⟩ := res
            rw [hf] at hx1
            refine lx_call (t := .one st) (as := [x]) rfl ⟨x, rfl, dp_ex e1 _ _ dx⟩ (he.ex e1) r3 ho1 ⟨lv, hox⟩ hf fun Hd4 H4 N4 e4 r4 k4 => ?_
            refine s_when (b := w1.isSome) (et_is (et_test (ev_notN (ev_var rfl))) (wy_some w1)) (fun hb4 H5 e5 => ?_) (fun hb4 H5 e5 => ?_)
            · cases w1 with
              | none => cases hb4
              | some w2 =>
                cases hx1
                exact s_ret (ev_var rfl) fun H6 e6 => q Hd4 H6 N4 (e1.trans e4) ((r4.mono e5).mono e6)
            · cases w1 with
              | some w2 => cases hb4
              | none => exact ⟨_, _, Hd4, s2, N4, rfl, e1.trans e4, r4.mono e5, k4.ok, hx1⟩
      · obtain ⟨y3, y4, Hd1, s1, N1, rfl, e1, r1, ho1, hx1⟩ := hP
        rw [List.drop_of_length_le (by omega), lxL] at hx1
        cases hx1
        exact s_ret ev_c fun H3 e3 => q Hd1 H3 N1 e1 (r1.mono e3)
    | _ => cases hk
end
/-! ### one statement -/
section
variable {P : Program} {w : World} {K : PySem.W.Frag} {mg : Str → Option Value} {base : Heap} {σ : L2.St} {Hd Hd' H H' H0 H1 : Hp}
variable {S bt G N : Addr} {gs : List Addr} {bits : List Nat} {s s2 : Ls} {c m : Nat} {bov : V} {bo : List (List Stm)}
/-- a list that is made, changed, and then stands for good -/
theorem LRep.fresh {a : Addr} {o : HO} (o' : HO) (r : LRep K Hd H S bt G gs bits s N) (e : Ex H H1) (n : H a = none) (h : H1 a = some o) : LRep K (upd Hd a o') (upd H1 a o') S bt G gs bits s N ∧ Ex Hd (upd Hd a o') := by
  have o1 := Own.new (La := (S, .lst (stO bt N G s)) :: bgL gs s.begun) (Lb := []) (by rw [List.append_nil]; exact r.own) e n h
  obtain ⟨o3, e3⟩ := (o1.upd o').rest
  rw [List.append_nil] at o3
  exact ⟨r.up e3 o3, e3⟩
theorem ev_lval {te tb : TE} {E : XK} {R : Addr} {r : List Int} (rp : LRep K Hd H S bt G gs bits s N) (h : Ev te σ H (.ref R)) (h2 : Ev tb σ H (.ref S)) (hR : SqL K Hd R (r.map V.int)) (hok : okR c r) (hst : s.stand.length = c) (hc : c ≤ 3) : Ev (tCall (spLVal K) [] E (tCons te (tCons tb tNil))) σ H (.int (totL r s.stand s.load)) :=
  ev_call (ea_cons h (ea_cons h2 ea_nil)) fun Ha ea Q q _ => ⟨R, S, bt, G, N, gs, bits, s, Hd, r, c, rfl, rp.mono ea, hR, hok, hst, hc, fun H' e => q H' e⟩
theorem getD_lt_mem {l : List Nat} {i : Nat} (h : i < l.length) : l.getD i 0 ∈ l := by
  rw [List.getD_eq_getElem?_getD, List.getElem?_eq_getElem h]; exact List.getElem_mem h
theorem bit_le (hb : ∀ b ∈ bits, b ≤ 1) : (bitL bits s).1 ≤ 1 := by
  rw [bitL]
  split
  · exact Nat.zero_le _
  · exact hb _ (getD_lt_mem (by omega))
theorem ok_lone {f : Addr} {fd : FuncData} {d : Nat} (F : Fun K "_law_execute_one" "_law_execute_one" s_law_execute_one f fd) (z_list : mg "list" = none) (C_law_bit : Cal P w K mg base 1 "_law_bit" (spLBit K) []) (C_law_value : Cal P w K mg base 1 "_law_value" (spLVal K) [])
    (C_law_execute : CalR P w K mg base d "_law_execute" (spLx K d 0)) (C_law_execute_keep : CalR P w K mg base d "_law_execute_keep" (spLx K d 2)) (C_law_execute_again : CalR P w K mg base d "_law_execute_again" (spLx K d 3)) (C_law_execute_call : CalR P w K mg base d "_law_execute_call" (spLx K d 4)) :
    FnR P w K mg base (d + 1) f fd ["bodies", "state", "statement"] (spLx K (d + 1) 1) := by
  have sc := sc_law_execute_one
  refine fnR_of F sc (fun vs H Q E h => ?_) (fun cdv A outer s H vs Q E hrr h => ?_)
  · obtain ⟨bov, S, bt, G, N, gs, bits, s, Hd, bo, c, m, t, as, w, s', rfl, hk, ha, _⟩ := h
    show as.length + 1 + 1 = 3
    rw [arg_len ha, hk]; rfl
  · obtain ⟨bov, S, bt, G, N, gs, bits, s, Hd, bo, c, m, t, as, w, s', rfl, hk, ha, he, r, ho, ht, hx, q⟩ := h
    cases t with
    | one x =>
      obtain ⟨v, rfl, hv⟩ := ha
      obtain ⟨lv, hok⟩ := ht
      rw [lx] at hx
      have hr := hrr.room (k := 2) (by decide)
      refine ⟨_, (pss_cons (ps_asg (pe_op op_add (pe_ix ix_list (pv 1) pe_int (fun _ _ => rfl)) pe_int) (pg_sub (pv 1) pe_int set_list))
      (pss_cons (ps_if (pt_cmpR op_gt (pe_ix ix_list (pv 1) pe_int (fun _ _ => rfl)) pe_int (nomark _))
      (pss_cons (ps_asg pe_str (pg_sub (pv 1) pe_int set_list))
      (pss_one (ps_ret pe_non)))
      pss_nil)
      (pss_cons (ps_if (pt_cmpR op_eq (pe_ix ix_tup (pv 2) pe_int (fun _ _ => rfl)) pe_str (nomark _))
      (pss_cons (ps_set (i := 3) sc.nd rfl (by first | exact Or.inl rfl | exact Or.inr rfl) (pe_callTy call_list_of (by rfl) z_list (by decide +kernel) (pa_cons (pe_ix ix_list (pv 1) pe_int (fun _ _ => rfl)) pa_nil)))
      (pss_cons (ps_asg (pe_c C_law_value hr (by omega) (by rfl) (pa_cons (pe_ix ix_tup (pv 2) pe_int (fun _ _ => rfl)) (pa_cons (pv 1) pa_nil))) (pg_sub (pv 3) (pe_ix ix_tup (pv 2) pe_int (fun _ _ => rfl)) set_list))
      (pss_cons (ps_asg (pv 3) (pg_sub (pv 1) pe_int set_list))
      (pss_cons (ps_asg (pe_op op_add (pe_ix ix_list (pv 1) pe_int (fun _ _ => rfl)) pe_int) (pg_sub (pv 1) pe_int set_list))
      (pss_one (ps_ret pe_non))))))
      pss_nil)
      (pss_cons (ps_if (pt_cmpR op_eq (pe_ix ix_tup (pv 2) pe_int (fun _ _ => rfl)) pe_str (nomark _))
      (pss_cons (ps_asg (pe_c C_law_value hr (by omega) (by rfl) (pa_cons (pe_ix ix_tup (pv 2) pe_int (fun _ _ => rfl)) (pa_cons (pv 1) pa_nil))) (pg_sub (pv 1) pe_int set_list))
      (pss_cons (ps_asg (pe_op op_add (pe_ix ix_list (pv 1) pe_int (fun _ _ => rfl)) pe_int) (pg_sub (pv 1) pe_int set_list))
      (pss_one (ps_ret pe_non))))
      pss_nil)
      (pss_cons (ps_if (pt_cmpR op_eq (pe_ix ix_tup (pv 2) pe_int (fun _ _ => rfl)) pe_str (nomark _))
      (pss_one (ps_ret (pe_cR C_law_execute_keep hrr (by omega) (by rfl) (pa_cons (pv 0) (pa_cons (pv 1) (pa_cons (pe_ix ix_tup (pv 2) pe_int (fun _ _ => rfl)) (pa_cons (pe_ix ix_tup (pv 2) pe_int (fun _ _ => rfl)) pa_nil)))))))
      pss_nil)
      (pss_cons (ps_if (pt_cmpR op_eq (pe_ix ix_tup (pv 2) pe_int (fun _ _ => rfl)) pe_str (nomark _))
      (pss_one (ps_ret (pe_cR C_law_execute hrr (by omega) (by rfl) (pa_cons (pv 0) (pa_cons (pv 1) (pa_cons (pe_ix ix_tup (pv 2) (pe_op op_add pe_int (pe_c C_law_bit hr (by omega) (by rfl) (pa_cons (pv 1) pa_nil))) (fun _ _ => rfl)) pa_nil))))))
      pss_nil)
      (pss_cons (ps_if (pt_cmpR op_eq (pe_ix ix_tup (pv 2) pe_int (fun _ _ => rfl)) pe_str (nomark _))
      (pss_one (ps_ret (pe_cR C_law_execute_again hrr (by omega) (by rfl) (pa_cons (pv 0) (pa_cons (pv 1) (pa_cons (pe_ix ix_tup (pv 2) pe_int (fun _ _ => rfl)) pa_nil))))))
      pss_nil)
      (pss_cons (ps_if (pt_cmpR op_eq (pe_ix ix_tup (pv 2) pe_int (fun _ _ => rfl)) pe_str (nomark _))
      (pss_one (ps_ret (pe_cR C_law_execute_call hrr (by omega) (by rfl) (pa_cons (pv 0) (pa_cons (pv 1) (pa_cons (pv 2) pa_nil))))))
      pss_nil)
      (pss_one (ps_ret (pe_ix ix_tup (pv 2) pe_int (fun _ _ => rfl)))))))))))), ?_⟩
      refine q_setL (j := 5) r.get (ev_is (ev_op (ev_st (j := 5) r (ev_var rfl) rfl) ev_c rv_I0) (show V.int ((s.cnt : Int) + 1) = V.int ((s.cnt + 1 : Nat) : Int) by rw [Int.natCast_add]; rfl)) (ev_var rfl) ev_c (by show 5 < 8; decide) fun H1 e1 => ?_
      have r1 := (r.mono e1).put (s2 := { s with cnt := s.cnt + 1 }) (N2 := N) (xs := (stO bt N G s).set 5 (.int ((s.cnt + 1 : Nat) : Int))) rfl rfl r.hN
      have k1 : LKeep c bits m s { s with cnt := s.cnt + 1 } := ⟨ho.of rfl, Nat.le_refl _, rfl⟩
      generalize upd H1 S (.lst ((stO bt N G s).set 5 (.int ((s.cnt + 1 : Nat) : Int)))) = H2 at r1 ⊢
      refine q_when (b := decide (500 < s.cnt + 1)) (et_is (et_test (ev_op (ev_st (j := 5) r1 (ev_var rfl) rfl) ev_c rv_I0)) (by simp; omega)) (fun hb H3 e3 => ?_) (fun hb H3 e3 => ?_)
      · have hb := of_decide_eq_true hb
        rw [if_pos hb] at hx
        cases hx
        have r3 := r1.mono e3
        refine q_setL (j := 7) r3.get ev_c (ev_var rfl) ev_c (by show 7 < 8; decide) fun H4 e4 => ?_
        have r4 := (r3.mono e4).put (s2 := { s with cnt := s.cnt + 1, err := some .long }) (N2 := N) (xs := (stO bt N G { s with cnt := s.cnt + 1 }).set 7 (.str "long")) rfl rfl r.hN
        exact s_ret ev_c fun H5 e5 => q Hd H5 N (Ex.refl _) (r4.mono e5)
      · have hb := of_decide_eq_false hb
        rw [if_neg hb] at hx
        have ho1 := k1.ok
        have hfin := fun Hd' H' N' e r' => q Hd' H' N' e r'
        have r3 := r1.mono e3
        clear r1 r
        generalize hs1 : ({ s with cnt := s.cnt + 1 } : Ls) = s1 at hx r3 ho1
        obtain ⟨tt, is, rfl, hit0, hit⟩ := stm_items hv
        have tH : ∀ {Ha : Hp}, Ex H3 Ha → SqT K Ha tt (.str (hdW x) :: is) := fun e => ex_t (r3.own.ex.trans e) hit0
        have T := fun {Ha : Hp} (e : Ex H3 Ha) (wd : Str) => (et_test (ev_op (ev_at (j := 0) (ev_var (i := 2) (σ := [some bov, some (.ref S), some (.ref tt), none]) rfl) (tH e) rfl) (ev_c (v := .str wd)) (rv_eq rfl)))
        cases x with
        | set k0 r0 =>
          rw [lx1] at hx
          cases hx
          rw [okS] at hok
          obtain ⟨a, rfl, ha⟩ := hit
          refine q_when (b := true) (et_is (T (Ex.refl _) _) (show decide (V.str "set" = V.str "set") = true by decide +kernel)) (fun _ H4 e4 => ?_) (fun z => (nomatch z))
          have r4 := r3.mono e4
          refine q_asgL (el_listS (ev_st (j := 2) r4 (ev_var rfl) rfl) (.inl (ex_l r4.own.ex r4.hN))) fun M H5 nM e5 hM => ?_
          have r5 := r4.mono e5
          have t5 := tH (e4.trans e5)
          refine q_setL (j := k0) hM (ev_lval r5 (ev_at (j := 2) (ev_var rfl) t5 rfl) (ev_var rfl) ha hok.2 ho1.st he.c3) (ev_var rfl) (ev_at (j := 1) (ev_var rfl) t5 rfl) (by rw [List.length_map, ho1.st]; exact hok.1) fun H6 e6 => ?_
          obtain ⟨r6, e7⟩ := r4.fresh (o := .lst (s1.stand.map V.int)) (.lst ((s1.stand.map V.int).set k0 (.int (totL r0 s1.stand s1.load)))) (e5.trans e6) nM (e6 _ _ hM)
          have hM6 : SqL K (upd Hd M (.lst ((s1.stand.map V.int).set k0 (.int (totL r0 s1.stand s1.load))))) M ((s1.stand.set k0 (totL r0 s1.stand s1.load)).map V.int) := by
            rw [List.map_set]
            exact sq_of upd_same
          refine q_setL (j := 2) r6.get (ev_var rfl) (ev_var rfl) ev_c (by show 2 < 8; decide) fun H7 e8 => ?_
          have r7 := (r6.mono e8).put (s2 := { s1 with stand := s1.stand.set k0 (totL r0 s1.stand s1.load) }) (N2 := M) (xs := (stO bt N G s1).set 2 (.ref M)) rfl rfl hM6
          refine q_setL (j := 4) r7.get (ev_is (ev_op (ev_st (j := 4) r7 (ev_var rfl) rfl) ev_c rv_I0) (show V.int ((s1.len : Int) + 1) = V.int ((s1.len + 1 : Nat) : Int) by rw [Int.natCast_add]; rfl)) (ev_var rfl) ev_c (by show 4 < 8; decide) fun H8 e9 => ?_
          have r8 := (r7.mono e9).put (s2 := { s1 with stand := s1.stand.set k0 (totL r0 s1.stand s1.load), len := s1.len + 1 }) (N2 := M) (xs := (stO bt M G { s1 with stand := s1.stand.set k0 (totL r0 s1.stand s1.load) }).set 4 (.int ((s1.len + 1 : Nat) : Int))) rfl rfl r7.hN
          exact s_ret ev_c fun H9 e10 => hfin _ H9 M e7 (r8.mono e10)
        | carry r0 =>
          rw [lx1] at hx
          cases hx
          rw [okS] at hok
          obtain ⟨a, rfl, ha⟩ := hit
          refine q_when (b := false) (et_is (T (Ex.refl _) _) (show decide (V.str "carry" = V.str "set") = false by decide +kernel)) (fun z => (nomatch z)) (fun _ H4 e4 => ?_)
          refine q_when (b := true) (et_is (T e4 _) (show decide (V.str "carry" = V.str "carry") = true by decide +kernel)) (fun _ H5 e5 => ?_) (fun z => (nomatch z))
          have r5 := (r3.mono e4).mono e5
          refine q_setL (j := 3) r5.get (ev_lval r5 (ev_at (j := 1) (ev_var rfl) (tH (e4.trans e5)) rfl) (ev_var rfl) ha hok ho1.st he.c3) (ev_var rfl) ev_c (by show 3 < 8; decide) fun H6 e6 => ?_
          have r6 := (r5.mono e6).put (s2 := { s1 with load := totL r0 s1.stand s1.load }) (N2 := N) (xs := (stO bt N G s1).set 3 (.int (totL r0 s1.stand s1.load))) rfl rfl r5.hN
          refine q_setL (j := 4) r6.get (ev_is (ev_op (ev_st (j := 4) r6 (ev_var rfl) rfl) ev_c rv_I0) (show V.int ((s1.len : Int) + 1) = V.int ((s1.len + 1 : Nat) : Int) by rw [Int.natCast_add]; rfl)) (ev_var rfl) ev_c (by show 4 < 8; decide) fun H7 e7 => ?_
          have r7 := (r6.mono e7).put (s2 := { s1 with load := totL r0 s1.stand s1.load, len := s1.len + 1 }) (N2 := N) (xs := (stO bt N G { s1 with load := totL r0 s1.stand s1.load }).set 4 (.int ((s1.len + 1 : Nat) : Int))) rfl rfl r5.hN
          exact s_ret ev_c fun H8 e8 => hfin _ H8 N (Ex.refl _) (r7.mono e8)
        | keep cs b =>
          rw [lx1] at hx
          rw [okS] at hok
          obtain ⟨a, vb, rfl, ha, hvb⟩ := hit
          refine q_when (b := false) (et_is (T (Ex.refl _) _) (show decide (V.str "keep" = V.str "set") = false by decide +kernel)) (fun z => (nomatch z)) (fun _ H4 e4 => ?_)
          refine q_when (b := false) (et_is (T e4 _) (show decide (V.str "keep" = V.str "carry") = false by decide +kernel)) (fun z => (nomatch z)) (fun _ H5 e5 => ?_)
          refine q_when (b := true) (et_is (T (e4.trans e5) _) (show decide (V.str "keep" = V.str "keep") = true by decide +kernel)) (fun _ H6 e6 => ?_) (fun z => (nomatch z))
          have e46 := (e4.trans e5).trans e6
          refine s_retC (ea_cons (ev_var rfl) (ea_cons (ev_var rfl) (ea_cons (ev_at (j := 1) (ev_var rfl) (tH e46) rfl) (ea_cons (ev_at (j := 2) (ev_var rfl) (tH e46) rfl) ea_nil)))) fun H7 e7 => ?_
          exact lx_call (t := .keep cs b) (as := [.ref a, vb]) rfl ⟨_, _, rfl, .lst ha (dpa_ints _), hvb⟩ he ((r3.mono e46).mono e7) ho1 ⟨hok.2.1.2, by have := asc_len hok.2.1; have := he.c3; omega, _, hok.2.2.2⟩ hx fun Hd8 H8 N8 e8 r8 _ => hfin Hd8 H8 N8 e8 r8
        | either ba bb =>
          rw [lx1] at hx
          rw [okS] at hok
          obtain ⟨va, vb, rfl, hva, hvb⟩ := hit
          refine q_when (b := false) (et_is (T (Ex.refl _) _) (show decide (V.str "either" = V.str "set") = false by decide +kernel)) (fun z => (nomatch z)) (fun _ H4 e4 => ?_)
          refine q_when (b := false) (et_is (T e4 _) (show decide (V.str "either" = V.str "carry") = false by decide +kernel)) (fun z => (nomatch z)) (fun _ H5 e5 => ?_)
          refine q_when (b := false) (et_is (T (e4.trans e5) _) (show decide (V.str "either" = V.str "keep") = false by decide +kernel)) (fun z => (nomatch z)) (fun _ H6 e6 => ?_)
          have e46 := (e4.trans e5).trans e6
          refine q_when (b := true) (et_is (T e46 _) (show decide (V.str "either" = V.str "either") = true by decide +kernel)) (fun _ H7 e7 => ?_) (fun z => (nomatch z))
          have r7 := (r3.mono e46).mono e7
          refine ⟨bov, rfl, .ref S, rfl, .ref tt, rfl, .ref S, rfl, S, bt, G, N, gs, bits, s1, Hd, rfl, r7, fun H8 r8 => ⟨1, ((bitL bits s1).1 : Int), rfl, rfl, tt, _, 1 + ((bitL bits s1).1 : Int), if (bitL bits s1).1 = 0 then va else vb, rfl, rfl, ex_t r8.own.ex hit0, ?_, ?_⟩⟩
          · have h1 := bit_le (s := s1) he.b1
            generalize (bitL bits s1).1 = n at h1
            rcases (show n = 0 ∨ n = 1 by omega) with rfl | rfl <;> rfl
          · refine lx_call (E := E0) (t := .blk (if (bitL bits s1).1 = 0 then ba else bb)) (as := [if (bitL bits s1).1 = 0 then va else vb]) rfl ⟨_, rfl, ?_⟩ he r8 (bit_keep ho1).ok ?_ hx fun Hd9 H9 N9 e9 r9 _ => hfin Hd9 H9 N9 e9 r9
            · split
              · exact hva
              · exact hvb
            · split
              · exact ⟨_, hok.2.2.1⟩
              · exact ⟨_, hok.2.2.2.2⟩
        | again b =>
          rw [lx1] at hx
          rw [okS] at hok
          obtain ⟨vb, rfl, hvb⟩ := hit
          refine q_when (b := false) (et_is (T (Ex.refl _) _) (show decide (V.str "again" = V.str "set") = false by decide +kernel)) (fun z => (nomatch z)) (fun _ H4 e4 => ?_)
          refine q_when (b := false) (et_is (T e4 _) (show decide (V.str "again" = V.str "carry") = false by decide +kernel)) (fun z => (nomatch z)) (fun _ H5 e5 => ?_)
          refine q_when (b := false) (et_is (T (e4.trans e5) _) (show decide (V.str "again" = V.str "keep") = false by decide +kernel)) (fun z => (nomatch z)) (fun _ H6 e6 => ?_)
          have e46 := (e4.trans e5).trans e6
          refine q_when (b := false) (et_is (T e46 _) (show decide (V.str "again" = V.str "either") = false by decide +kernel)) (fun z => (nomatch z)) (fun _ H7 e7 => ?_)
          have e47 := e46.trans e7
          refine q_when (b := true) (et_is (T e47 _) (show decide (V.str "again" = V.str "again") = true by decide +kernel)) (fun _ H8 e8 => ?_) (fun z => (nomatch z))
          refine s_retC (ea_cons (ev_var rfl) (ea_cons (ev_var rfl) (ea_cons (ev_at (j := 1) (ev_var rfl) (tH (e47.trans e8)) rfl) ea_nil))) fun H9 e9 => ?_
          exact lx_call (t := .again b) (as := [vb]) rfl ⟨_, rfl, hvb⟩ he (((r3.mono e47).mono e8).mono e9) ho1 ⟨_, hok.2.2⟩ hx fun Hd8 H8 N8 e8 r8 _ => hfin Hd8 H8 N8 e8 r8
        | call p r0 ba bb =>
          rw [lx1] at hx
          rw [okS] at hok
          refine q_when (b := false) (et_is (T (Ex.refl _) _) (show decide (V.str "call" = V.str "set") = false by decide +kernel)) (fun z => (nomatch z)) (fun _ H4 e4 => ?_)
          refine q_when (b := false) (et_is (T e4 _) (show decide (V.str "call" = V.str "carry") = false by decide +kernel)) (fun z => (nomatch z)) (fun _ H5 e5 => ?_)
          refine q_when (b := false) (et_is (T (e4.trans e5) _) (show decide (V.str "call" = V.str "keep") = false by decide +kernel)) (fun z => (nomatch z)) (fun _ H6 e6 => ?_)
          have e46 := (e4.trans e5).trans e6
          refine q_when (b := false) (et_is (T e46 _) (show decide (V.str "call" = V.str "either") = false by decide +kernel)) (fun z => (nomatch z)) (fun _ H7 e7 => ?_)
          have e47 := e46.trans e7
          refine q_when (b := false) (et_is (T e47 _) (show decide (V.str "call" = V.str "again") = false by decide +kernel)) (fun z => (nomatch z)) (fun _ H8 e8 => ?_)
          have e48 := e47.trans e8
          refine q_when (b := true) (et_is (T e48 _) (show decide (V.str "call" = V.str "call") = true by decide +kernel)) (fun _ H9 e9 => ?_) (fun z => (nomatch z))
          refine s_retC (ea_cons (ev_var rfl) (ea_cons (ev_var rfl) (ea_cons (ev_var rfl) ea_nil))) fun H10 e10 => ?_
          exact lx_call (t := .call p r0 ba bb) (as := [.ref tt]) rfl ⟨_, rfl, hv⟩ he (((r3.mono e48).mono e9).mono e10) ho1 ⟨hok.2.1, hok.2.2.1, ⟨_, hok.2.2.2.2.1⟩, ⟨_, hok.2.2.2.2.2.2⟩⟩ hx fun Hd8 H8 N8 e8 r8 _ => hfin Hd8 H8 N8 e8 r8
        | fin w1 =>
          rw [lx1] at hx
          cases hx
          obtain rfl := hit
          refine q_when (b := false) (et_is (T (Ex.refl _) _) (show decide (V.str "end" = V.str "set") = false by decide +kernel)) (fun z => (nomatch z)) (fun _ H4 e4 => ?_)
          refine q_when (b := false) (et_is (T e4 _) (show decide (V.str "end" = V.str "carry") = false by decide +kernel)) (fun z => (nomatch z)) (fun _ H5 e5 => ?_)
          refine q_when (b := false) (et_is (T (e4.trans e5) _) (show decide (V.str "end" = V.str "keep") = false by decide +kernel)) (fun z => (nomatch z)) (fun _ H6 e6 => ?_)
          have e46 := (e4.trans e5).trans e6
          refine q_when (b := false) (et_is (T e46 _) (show decide (V.str "end" = V.str "either") = false by decide +kernel)) (fun z => (nomatch z)) (fun _ H7 e7 => ?_)
          have e47 := e46.trans e7
          refine q_when (b := false) (et_is (T e47 _) (show decide (V.str "end" = V.str "again") = false by decide +kernel)) (fun z => (nomatch z)) (fun _ H8 e8 => ?_)
          have e48 := e47.trans e8
          refine q_when (b := false) (et_is (T e48 _) (show decide (V.str "end" = V.str "call") = false by decide +kernel)) (fun z => (nomatch z)) (fun _ H9 e9 => ?_)
          have e49 := e48.trans e9
          exact s_ret (ev_at (j := 1) (ev_var rfl) (tH e49) rfl) fun H10 e10 => hfin Hd H10 N (Ex.refl _) ((r3.mono e49).mono e10)
    | _ => cases hk
end
/-! ### keeps, loops, calls, procedures -/
section
variable {P : Program} {w : World} {K : PySem.W.Frag} {mg : Str → Option Value} {base : Heap} {σ : L2.St} {Hd Hd' H H' H0 H1 : Hp}
variable {S bt G N : Addr} {gs : List Addr} {bits : List Nat} {s s2 : Ls} {c m : Nat} {bov : V} {bo : List (List Stm)}
theorem LRep.fresh2 {a : Addr} {o : HO} (r : LRep K Hd H S bt G gs bits s N) (e : Ex H H1) (n : H a = none) (h : H1 a = some o) : Own Hd (((S, .lst (stO bt N G s)) :: bgL gs s.begun) ++ (a, o) :: []) H1 :=
  Own.new (La := (S, .lst (stO bt N G s)) :: bgL gs s.begun) (Lb := []) (by rw [List.append_nil]; exact r.own) e n h
theorem ok_lkeep {f : Addr} {fd : FuncData} {d : Nat} (F : Fun K "_law_execute_keep" "_law_execute_keep" s_law_execute_keep f fd) (z_list : mg "list" = none) (C_law_execute : CalR P w K mg base d "_law_execute" (spLx K d 0)) :
    FnR P w K mg base (d + 1) f fd ["bodies", "state", "kept", "block"] (spLx K (d + 1) 2) := by
  have sc := sc_law_execute_keep
  refine fnR_of F sc (fun vs H Q E h => ?_) (fun cdv A outer s H vs Q E hrr h => ?_)
  · obtain ⟨bov, S, bt, G, N, gs, bits, s, Hd, bo, c, m, t, as, w, s', rfl, hk, ha, _⟩ := h
    show as.length + 1 + 1 = 4
    rw [arg_len ha, hk]; rfl
  · obtain ⟨bov, S, bt, G, N, gs, bits, s, Hd, bo, c, m, t, as, w, s', rfl, hk, ha, he, r, ho, ht, hx, q⟩ := h
    cases t with
    | keep cs b =>
      obtain ⟨kv, bv, rfl, hkv, hbv⟩ := ha
      obtain ⟨hcs, hcl, hb⟩ := ht
      rw [lx] at hx
      refine ⟨_, (pss_cons (ps_set (i := 4) sc.nd rfl (by first | exact Or.inl rfl | exact Or.inr rfl) (pe_callTy call_list_of (by rfl) z_list (by decide +kernel) (pa_cons (pe_ix ix_list (pv 1) pe_int (fun _ _ => rfl)) pa_nil)))
      (pss_cons (ps_set (i := 5) sc.nd rfl (by first | exact Or.inl rfl | exact Or.inr rfl) (pe_ix ix_list (pv 1) pe_int (fun _ _ => rfl)))
      (pss_cons (ps_set (i := 6) sc.nd rfl (by first | exact Or.inl rfl | exact Or.inr rfl) (pe_cR C_law_execute hrr (by omega) (by rfl) (pa_cons (pv 0) (pa_cons (pv 1) (pa_cons (pv 3) pa_nil)))))
      (pss_cons (ps_set (i := 7) sc.nd rfl (by first | exact Or.inl rfl | exact Or.inr rfl) (pe_callTy call_list_of (by rfl) z_list (by decide +kernel) (pa_cons (pe_ix ix_list (pv 1) pe_int (fun _ _ => rfl)) pa_nil)))
      (pss_cons (ps_for PassesOwn.never rfl (pi_list (pv 2)) (pg_name (i := 8) sc.nd rfl (by first | exact Or.inl rfl | exact Or.inr rfl))
      (pss_one (ps_asg (pe_ix ix_list (pv 4) (pv 8) (fun _ _ => rfl)) (pg_sub (pv 7) (pv 8) set_list))))
      (pss_cons (ps_asg (pv 7) (pg_sub (pv 1) pe_int set_list))
      (pss_cons (ps_asg (pv 5) (pg_sub (pv 1) pe_int set_list))
      (pss_one (ps_ret (pv 6)))))))))), ?_⟩
      obtain ⟨ka, rfl, hka⟩ := dp_li hkv
      -- before = list(state[2])
      refine q_asgL (el_listS (ev_st (j := 2) r (ev_var rfl) rfl) (.inl (ex_l r.own.ex r.hN))) fun B H1 nB e1 hB => ?_
      obtain ⟨r1, g1⟩ := r.grow e1 nB hB
      have hB1 : SqL K (upd Hd B (.lst (s.stand.map V.int))) B (s.stand.map V.int) := sq_of upd_same
      refine q_asg (ev_st (j := 3) r1 (ev_var rfl) rfl) fun H2 e2 => ?_
      refine q_asgC (ea_cons (ev_var rfl) (ea_cons (ev_var rfl) (ea_cons (ev_var rfl) ea_nil))) fun H3 e3 => ?_
      cases hf : lx bits bo d (.blk b) s with
      | none => rw [hf] at hx; cases hx
      | some res =>
        obtain ⟨w1, s1⟩ := res
        rw [hf] at hx
        cases hx
        refine lx_call (t := .blk b) (as := [bv]) rfl ⟨_, rfl, dp_ex g1 _ _ hbv⟩ (he.ex g1) ((r1.mono e2).mono e3) ho hb hf fun Hd4 H4 N4 g4 r4 k4 => ?_
        have g04 := g1.trans g4
        -- stand = list(state[2])
        refine q_asgL (el_listS (ev_st (j := 2) r4 (ev_var rfl) rfl) (.inl (ex_l r4.own.ex r4.hN))) fun M H5 nM e5 hM => ?_
        have o5 := r4.fresh2 e5 nM hM
        have hst : s1.stand.length = c := k4.ok.st
        refine q_forLn (ev_var rfl) (ex_l (g04.trans o5.ex) hka) (fun i σ' H' => ∃ (y : Option V) (cur : List Int), σ' = [some bov, some (.ref S), some (.ref ka), some bv, some (.ref B), some (.int s.load), some (wyV w), some (.ref M), y] ∧ Own Hd4 (((S, .lst (stO bt N4 G s1)) :: bgL gs s1.begun) ++ (M, .lst (cur.map V.int)) :: []) H' ∧ cur.length = c ∧ putL (cs.drop i) s.stand cur = putL cs s.stand s1.stand)
          (fun H6 e6 => ⟨none, s1.stand, rfl, o5.mono e6, hst, by rw [List.drop_zero]⟩) (fun i σ' H' _ ⟨_, _, _, o, _⟩ => ex_l (g04.trans o.ex) hka) (fun i x σ' H' hxi hP => ?_) (fun σ' H' hP => ?_)
        · obtain ⟨y, cur, rfl, o, hcl2, hp⟩ := hP
          rw [List.map_map, List.getElem?_map, Option.map_eq_some_iff] at hxi
          obtain ⟨k, hki, rfl⟩ := hxi
          have hi : i < cs.length := (List.getElem?_eq_some_iff.mp hki).1
          have hkc : k < c := hcs k (List.mem_of_getElem? hki)
          rw [List.drop_eq_getElem_cons hi] at hp
          rw [show cs[i] = k from by rw [List.getElem?_eq_getElem hi] at hki; exact Option.some.inj hki] at hp
          dsimp only
          have hMc : H' M = some (.lst (cur.map V.int)) := o.get (List.mem_append.mpr (.inr (List.mem_cons_self ..)))
          refine s_setL (j := k) hMc (ev_op (ev_var rfl) (ev_var rfl) (rv_ixL (ex_l (g4.trans o.ex) hB1) (atI_nat (getIq (by rw [ho.st]; exact hkc))))) (ev_var rfl) (ev_var rfl) (by rw [List.length_map, hcl2]; exact hkc) fun H7 e7 => ?_
          refine ⟨_, cur.set k (s.stand.getD k 0), rfl, ?_, by rw [List.length_set]; exact hcl2, hp⟩
          rw [List.map_set]
          exact (o.mono e7).upd _
        · obtain ⟨y, cur, rfl, o, hcl2, hp⟩ := hP
          rw [List.length_map, List.length_map, List.drop_of_length_le (Nat.le_refl _)] at hp
          have hp : cur = putL cs s.stand s1.stand := hp
          subst hp
          obtain ⟨o6, g6⟩ := o.rest
          rw [List.append_nil] at o6
          have r6 := r4.up g6 o6
          refine q_setL (j := 2) r6.get (ev_var rfl) (ev_var rfl) ev_c (by show 2 < 8; decide) fun H7 e7 => ?_
          have r7 := (r6.mono e7).put (s2 := { s1 with stand := putL cs s.stand s1.stand }) (N2 := M) (xs := (stO bt N4 G s1).set 2 (.ref M)) rfl rfl (sq_of upd_same)
          refine q_setL (j := 3) r7.get (ev_var rfl) (ev_var rfl) ev_c (by show 3 < 8; decide) fun H8 e8 => ?_
          have r8 := (r7.mono e8).put (s2 := { s1 with stand := putL cs s.stand s1.stand, load := s.load }) (N2 := M) (xs := (stO bt M G { s1 with stand := putL cs s.stand s1.stand }).set 3 (.int s.load)) rfl rfl r7.hN
          exact s_ret (ev_var rfl) fun H9 e9 => q _ H9 M (g04.trans g6) (r8.mono e9)
    | _ => cases hk
theorem ok_lagain {f : Addr} {fd : FuncData} {d : Nat} (F : Fun K "_law_execute_again" "_law_execute_again" s_law_execute_again f fd) (z_range : mg "range" = none) (z_len : mg "len" = none) (C_law_bit : Cal P w K mg base 1 "_law_bit" (spLBit K) []) (C_law_execute : CalR P w K mg base d "_law_execute" (spLx K d 0)) :
    FnR P w K mg base (d + 1) f fd ["bodies", "state", "block"] (spLx K (d + 1) 3) := by
  have sc := sc_law_execute_again
  refine fnR_of F sc (fun vs H Q E h => ?_) (fun cdv A outer s H vs Q E hrr h => ?_)
  · obtain ⟨bov, S, bt, G, N, gs, bits, s, Hd, bo, c, m, t, as, w, s', rfl, hk, ha, _⟩ := h
    show as.length + 1 + 1 = 3
    rw [arg_len ha, hk]; rfl
  · obtain ⟨bov, S, bt, G, N, gs, bits, s, Hd, bo, c, m, t, as, w, s', rfl, hk, ha, he, r, ho, ht, hx, q⟩ := h
    cases t with
    | again b =>
      obtain ⟨bv, rfl, hbv⟩ := ha
      rw [lx] at hx
      have hr := hrr.room (k := 2) (by decide)
      refine ⟨_, (pss_cons (ps_for PassesOwn.never rfl (pi_range1 (by rfl) z_range (pa_cons (pe_op op_add (pe_callB call_len_seq (by rfl) z_len (by decide +kernel) (pa_cons (pe_ix ix_list (pv 1) pe_int (fun _ _ => rfl)) pa_nil)) pe_int) pa_nil)) (pg_name (i := 3) sc.nd rfl (by first | exact Or.inl rfl | exact Or.inr rfl))
      (pss_cons (ps_if (pt_cmpR op_eq (pe_c C_law_bit hr (by omega) (by rfl) (pa_cons (pv 1) pa_nil)) pe_int (nomark _))
      (pss_one (ps_ret pe_non))
      pss_nil)
      (pss_cons (ps_set (i := 4) sc.nd rfl (by first | exact Or.inl rfl | exact Or.inr rfl) (pe_cR C_law_execute hrr (by omega) (by rfl) (pa_cons (pv 0) (pa_cons (pv 1) (pa_cons (pv 2) pa_nil)))))
      (pss_one (ps_if (PW.pt (pw_or (pt_cmpR op_notN (pv 4) pe_non (nomark _)) (pw_or1 (pt_cmpR op_notN (pe_ix ix_list (pv 1) pe_int (fun _ _ => rfl)) pe_non (nomark _)))))
      (pss_one (ps_ret (pv 4)))
      pss_nil)))))
      (pss_one (ps_ret pe_non))), ?_⟩
      have hbl := he.bl
      refine q_forR1 (n := ((bits.length + 1 : Nat) : Int)) (ea_cons (ev_is (ev_op (ev_lenS (ev_st (j := 0) r (ev_var rfl) rfl) (.inl (ex_l r.own.ex r.hb))) ev_c rv_I0) (by rw [List.length_map, Int.natCast_add]; rfl)) ea_nil) ⟨by omega, by omega⟩ (fun i σ' H' => ∃ (y3 y4 : Option V) (Hd' : Hp) (s1 : Ls) (N1 : Addr), σ' = [some bov, some (.ref S), some bv, y3, y4] ∧ Ex Hd Hd' ∧ LRep K Hd' H' S bt G gs bits s1 N1 ∧ LOk c bits m s1 ∧ lxA bits (lx bits bo d (.blk b)) (bits.length + 1 - i) s1 = some (w, s'))
        (fun H1 e1 => ⟨none, none, Hd, s, N, rfl, Ex.refl _, r.mono e1, ho, hx⟩) (fun i σ' H' hi hP => ?_) (fun σ' H' hP => ?_)
      · obtain ⟨y3, y4, Hd1, s1, N1, rfl, g1, r1, ho1, hx1⟩ := hP
        have hin : bits.length + 1 - i = (bits.length + 1 - (i + 1)) + 1 := by omega
        rw [hin, lxA] at hx1
        dsimp only
        -- if _law_bit(state) == 0
        have hbit : ∀ {D : Ends} {tz : TS} {σ : L2.St} {tr : TS}, σ[1]? = some (some (.ref S)) → ((bitL bits s1).1 = 0 → ∀ H2, LRep K Hd1 H2 S bt G gs bits (bitL bits s1).2 N1 → tr { D with nx := tz D } σ H2) → (¬(bitL bits s1).1 = 0 → ∀ H2, LRep K Hd1 H2 S bt G gs bits (bitL bits s1).2 N1 → tz D σ H2) →
            tSeq (tIfS (tTest (tOp rEq (tCall (spLBit K) [] E0 (tCons (tVar 1) tNil)) (tC (.int 0)))) tr tNext) tz D σ H' := fun {D tz σ tr} hs h1 h2 => by
          refine ⟨.ref S, hs, S, bt, G, N1, gs, bits, s1, Hd1, rfl, r1, fun H2 r2 => ⟨rfl, ?_⟩⟩
          refine ⟨_, rfl, ?_⟩
          by_cases hz : (bitL bits s1).1 = 0
          · rw [show decide (V.int (((bitL bits s1).1 : Nat) : Int) = V.int 0) = true from by rw [hz]; rfl]
            exact h1 hz H2 r2
          · rw [show decide (V.int (((bitL bits s1).1 : Nat) : Int) = V.int 0) = false from decide_eq_false fun y => hz (by have := V.int.inj y; omega)]
            exact h2 hz H2 r2
        refine hbit rfl (fun hz H2 r2 => ?_) (fun hz H2 r2 => ?_)
        · rw [if_pos hz] at hx1
          cases hx1
          exact s_ret ev_c fun H3 e3 => q Hd1 H3 N1 g1 (r2.mono e3)
        · rw [if_neg hz] at hx1
          have k2 := bit_keep ho1
          refine q_asgC (ea_cons (ev_var rfl) (ea_cons (ev_var rfl) (ea_cons (ev_var rfl) ea_nil))) fun H3 e3 => ?_
          cases hf : lx bits bo d (.blk b) (bitL bits s1).2 with
          | none => rw [hf] at hx1; cases hx1
          | some res =>
            obtain ⟨w1, s2⟩ := res
            rw [hf] at hx1
            dsimp only at hx1
            refine lx_call (t := .blk b) (as := [bv]) rfl ⟨_, rfl, dp_ex g1 _ _ hbv⟩ (he.ex g1) (r2.mono e3) k2.ok ht hf fun Hd4 H4 N4 g4 r4 k4 => ?_
            refine s_when (b := w1.isSome || s2.err.isSome) (et_or (et_is (et_test (ev_notN (ev_var rfl))) (wy_some w1)) fun _ => et_is (et_test (ev_notN (ev_st (j := 7) r4 (ev_var rfl) rfl))) (er_some s2)) (fun hb5 H5 e5 => ?_) (fun hb5 H5 e5 => ?_)
            · rw [if_pos (by rw [Bool.or_eq_true] at hb5; exact hb5)] at hx1
              cases hx1
              exact s_ret (ev_var rfl) fun H6 e6 => q Hd4 H6 N4 (g1.trans g4) ((r4.mono e5).mono e6)
            · rw [if_neg (by rw [Bool.or_eq_false_iff] at hb5; rw [hb5.1, hb5.2]; simp)] at hx1
              exact ⟨_, _, Hd4, s2, N4, rfl, g1.trans g4, r4.mono e5, k4.ok, hx1⟩
      · obtain ⟨y3, y4, Hd1, s1, N1, rfl, g1, r1, ho1, hx1⟩ := hP
        rw [Int.toNat_natCast, Nat.sub_self, lxA] at hx1
        cases hx1
        exact s_ret ev_c fun H3 e3 => q Hd1 H3 N1 g1 (r1.mono e3)
    | _ => cases hk
theorem ok_lcall {f : Addr} {fd : FuncData} {d : Nat} (F : Fun K "_law_execute_call" "_law_execute_call" s_law_execute_call f fd) (C_law_value : Cal P w K mg base 1 "_law_value" (spLVal K) []) (C_law_execute : CalR P w K mg base d "_law_execute" (spLx K d 0)) (C_law_execute_procedure : CalR P w K mg base d "_law_execute_procedure" (spLx K d 5)) :
    FnR P w K mg base (d + 1) f fd ["bodies", "state", "statement"] (spLx K (d + 1) 4) := by
  have sc := sc_law_execute_call
  refine fnR_of F sc (fun vs H Q E h => ?_) (fun cdv A outer s H vs Q E hrr h => ?_)
  · obtain ⟨bov, S, bt, G, N, gs, bits, s, Hd, bo, c, m, t, as, w, s', rfl, hk, ha, _⟩ := h
    show as.length + 1 + 1 = 3
    rw [arg_len ha, hk]; rfl
  · obtain ⟨bov, S, bt, G, N, gs, bits, s, Hd, bo, c, m, t, as, w, s', rfl, hk, ha, he, r, ho, ht, hx, q⟩ := h
    cases t with
    | call p r0 ba bb =>
      obtain ⟨v, rfl, hv⟩ := ha
      obtain ⟨hp, hr0, hba, hbb⟩ := ht
      rw [lx] at hx
      have hr := hrr.room (k := 2) (by decide)
      refine ⟨_, (pss_cons (ps_set (i := 3) sc.nd rfl (by first | exact Or.inl rfl | exact Or.inr rfl) (pe_ix ix_list (pv 1) pe_int (fun _ _ => rfl)))
      (pss_cons (ps_asg (pe_c C_law_value hr (by omega) (by rfl) (pa_cons (pe_ix ix_tup (pv 2) pe_int (fun _ _ => rfl)) (pa_cons (pv 1) pa_nil))) (pg_sub (pv 1) pe_int set_list))
      (pss_cons (ps_set (i := 4) sc.nd rfl (by first | exact Or.inl rfl | exact Or.inr rfl) (pe_cR C_law_execute_procedure hrr (by omega) (by rfl) (pa_cons (pv 0) (pa_cons (pv 1) (pa_cons (pe_ix ix_tup (pv 2) pe_int (fun _ _ => rfl)) pa_nil)))))
      (pss_cons (ps_asg (pv 3) (pg_sub (pv 1) pe_int set_list))
      (pss_cons (ps_if (pt_cmpR op_isN (pv 4) pe_non (nomark _))
      (pss_one (ps_ret pe_non))
      pss_nil)
      (pss_one (ps_ret (pe_cR C_law_execute hrr (by omega) (by rfl) (pa_cons (pv 0) (pa_cons (pv 1) (pa_cons (pe_ix ix_list (pe_ix ix_tup (pv 2) pe_int (fun _ _ => rfl)) (pv 4) (fun _ _ => rfl)) pa_nil))))))))))), ?_⟩
      obtain ⟨tt, is, rfl, hit0, ra, Bl, va, vb, rfl, hra, hBl, hva, hvb⟩ := stm_items hv
      have tH : ∀ {Ha : Hp}, Ex Hd Ha → SqT K Ha tt _ := fun e => ex_t e hit0
      refine q_asg (ev_st (j := 3) r (ev_var rfl) rfl) fun H1 e1 => ?_
      have r1 := r.mono e1
      refine q_setL (j := 3) r1.get (ev_lval r1 (ev_at (j := 2) (ev_var rfl) (tH r1.own.ex) rfl) (ev_var rfl) hra hr0 ho.st he.c3) (ev_var rfl) ev_c (by show 3 < 8; decide) fun H2 e2 => ?_
      have r2 := (r1.mono e2).put (s2 := { s with load := totL r0 s.stand s.load }) (N2 := N) (xs := (stO bt N G s).set 3 (.int (totL r0 s.stand s.load))) rfl rfl r1.hN
      have ho2 : LOk c bits m { s with load := totL r0 s.stand s.load } := ho.of rfl
      refine q_asgC (ea_cons (ev_var rfl) (ea_cons (ev_var rfl) (ea_cons (ev_at (j := 1) (ev_var rfl) (tH r2.own.ex) rfl) ea_nil))) fun H3 e3 => ?_
      cases hf : lx bits bo d (.proc p) { s with load := totL r0 s.stand s.load } with
      | none => rw [hf] at hx; cases hx
      | some res =>
        obtain ⟨w1, s1⟩ := res
        rw [hf] at hx
        refine lx_call (t := .proc p) (as := [.int (p : Int)]) rfl rfl he (r2.mono e3) ho2 hp hf fun Hd4 H4 N4 g4 r4 k4 => ?_
        refine q_setL (j := 3) r4.get (ev_var rfl) (ev_var rfl) ev_c (by show 3 < 8; decide) fun H5 e5 => ?_
        have r5 := (r4.mono e5).put (s2 := { s1 with load := s.load }) (N2 := N4) (xs := (stO bt N4 G s1).set 3 (.int s.load)) rfl rfl r4.hN
        have ho5 : LOk c bits m { s1 with load := s.load } := k4.ok.of rfl
        cases w1 with
        | none =>
          cases hx
          refine q_when (b := true) (et_is (et_test (ev_isN (ev_var rfl))) rfl) (fun _ H6 e6 => ?_) (fun z => (nomatch z))
          exact s_ret ev_c fun H7 e7 => q Hd4 H7 N4 g4 ((r5.mono e6).mono e7)
        | some w2 =>
          have hw2 := lx_way he.ok he.ln he.c3 d (.proc p) _ w2 s1 hp hf
          refine q_when (b := false) (et_is (et_test (ev_isN (ev_var rfl))) rfl) (fun z => (nomatch z)) (fun _ H6 e6 => ?_)
          have r6 := r5.mono e6
          have g6 := g4.trans r6.own.ex
          refine s_retC (vs := [bov, .ref S, if w2 = 0 then va else vb]) (ea_cons (ev_var rfl) (ea_cons (ev_var rfl) (ea_cons (ev_op (ev_at (j := 3) (ev_var rfl) (tH g6) rfl) (ev_var (v := .int (w2 : Int)) rfl) (rv_ixL (ex_l g6 hBl) ?_)) ea_nil))) fun H7 e7 => ?_
          · rcases (show w2 = 0 ∨ w2 = 1 by omega) with rfl | rfl <;> rfl
          · refine lx_call (t := .blk (if w2 = 0 then ba else bb)) (as := [if w2 = 0 then va else vb]) rfl ⟨_, rfl, ?_⟩ (he.ex g4) (r6.mono e7) ho5 ?_ hx fun Hd8 H8 N8 g8 r8 _ => q Hd8 H8 N8 (g4.trans g8) r8
            · split
              · exact dp_ex g4 _ _ hva
              · exact dp_ex g4 _ _ hvb
            · split
              · exact hba
              · exact hbb
    | _ => cases hk
/-! #### a procedure -/
theorem bgL_split : ∀ (gs : List Addr) (ls : List (List Nat)) (p : Nat), gs.length = ls.length → p < ls.length → ∃ (La Lb : OL) (g : Addr), gs[p]? = some g ∧ bgL gs ls = La ++ (g, .lst ((ls.getD p []).map nV)) :: Lb ∧ ∀ l, bgL gs (ls.set p l) = La ++ (g, .lst (l.map nV)) :: Lb
  | [], [], _, _, h => absurd h (Nat.not_lt_zero _)
  | [], _ :: _, _, h, _ => by cases h
  | _ :: _, [], _, h, _ => by cases h
  | g :: gs, l :: ls, 0, _, _ => ⟨[], bgL gs ls, g, rfl, rfl, fun _ => rfl⟩
  | g :: gs, l :: ls, p + 1, h, hp => by
    obtain ⟨La, Lb, g', h1, h2, h3⟩ := bgL_split gs ls p (Nat.succ.inj h) (Nat.lt_of_succ_lt_succ hp)
    refine ⟨(g, .lst (l.map nV)) :: La, Lb, g', h1, ?_, fun l' => ?_⟩
    · show (g, .lst (l.map nV)) :: bgL gs ls = _
      rw [h2]; rfl
    · show (g, .lst (l.map nV)) :: bgL gs (ls.set p l') = _
      rw [h3]; rfl
/-- a list of begins is written anew -/
theorem LRep.setB {p : Nat} (r : LRep K Hd H S bt G gs bits s N) (hp : p < s.begun.length) : ∃ g, gs[p]? = some g ∧ H g = some (.lst ((s.begun.getD p []).map nV)) ∧ ∀ (l : List Nat) (H1 : Hp), Ex H H1 → LRep K Hd (upd H1 g (.lst (l.map nV))) S bt G gs bits { s with begun := s.begun.set p l } N := by
  obtain ⟨La, Lb, g, h1, h2, h3⟩ := bgL_split gs s.begun p r.lg hp
  have o := r.own
  rw [h2] at o
  refine ⟨g, h1, o.get (by simp), fun l H1 e => ⟨?_, r.hN, r.hb, r.hG, by show gs.length = (s.begun.set p l).length; rw [List.length_set]; exact r.lg⟩⟩
  show Own Hd ((S, .lst (stO bt N G s)) :: bgL gs (s.begun.set p l)) _
  rw [h3]
  exact Own.upd (La := (S, .lst (stO bt N G s)) :: La) (o.mono e) _
theorem ok_lproc {f : Addr} {fd : FuncData} {d : Nat} (F : Fun K "_law_execute_procedure" "_law_execute_procedure" s_law_execute_procedure f fd) (z_len : mg "len" = none) (C_law_execute : CalR P w K mg base d "_law_execute" (spLx K d 0)) :
    FnR P w K mg base (d + 1) f fd ["bodies", "state", "procedure"] (spLx K (d + 1) 5) := by
  have sc := sc_law_execute_procedure
  refine fnR_of F sc (fun vs H Q E h => ?_) (fun cdv A outer s H vs Q E hrr h => ?_)
  · obtain ⟨bov, S, bt, G, N, gs, bits, s, Hd, bo, c, m, t, as, w, s', rfl, hk, ha, _⟩ := h
    show as.length + 1 + 1 = 3
    rw [arg_len ha, hk]; rfl
  · obtain ⟨bov, S, bt, G, N, gs, bits, s, Hd, bo, c, m, t, as, w, s', rfl, hk, ha, he, r, ho, ht, hx, q⟩ := h
    cases t with
    | proc p =>
      obtain rfl : as = [.int (p : Int)] := ha
      have hp : p < m := ht
      rw [lx] at hx
      refine ⟨_, (pss_cons (ps_set (i := 3) sc.nd rfl (by first | exact Or.inl rfl | exact Or.inr rfl) (pe_ix ix_list (pe_ix ix_list (pv 1) pe_int (fun _ _ => rfl)) (pv 2) (fun _ _ => rfl)))
      (pss_cons (ps_if (PW.pt (pw_and (pt_cmpR op_gt (pe_callB call_len_seq (by rfl) z_len (by decide +kernel) (pa_cons (pv 3) pa_nil)) pe_int (nomark _)) (pw_and1 (pt_cmpR op_eq (pe_ix ix_list (pv 3) (pe_op op_sub (pe_callB call_len_seq (by rfl) z_len (by decide +kernel) (pa_cons (pv 3) pa_nil)) pe_int) (fun _ _ => rfl)) (pe_ix ix_list (pv 1) pe_int (fun _ _ => rfl)) (nomark _)))))
      (pss_cons (ps_asg (pe_un un_neg pe_int) (pg_sub (pv 1) pe_int set_list))
      (pss_one (ps_ret pe_non)))
      pss_nil)
      (pss_cons (ps_expr (pe_bm PySem.F.plainAttrs_list PySem.F.slot_list_append PySem.F.type_list_append mt_append (pv 3) (pa_cons (pe_ix ix_list (pv 1) pe_int (fun _ _ => rfl)) pa_nil)))
      (pss_cons (ps_set (i := 4) sc.nd rfl (by first | exact Or.inl rfl | exact Or.inr rfl) (pe_cR C_law_execute hrr (by omega) (by rfl) (pa_cons (pv 0) (pa_cons (pv 1) (pa_cons (pe_ix ix_list (pv 0) (pv 2) (fun _ _ => rfl)) pa_nil)))))
      (pss_cons (ps_expr (pe_bm0 PySem.F.plainAttrs_list PySem.F.slot_list_pop PySem.F.type_list_pop mt_pop (pv 3)))
      (pss_cons (ps_if (pt_cmpR op_notN (pe_ix ix_list (pv 1) pe_int (fun _ _ => rfl)) pe_non (nomark _))
      (pss_one (ps_ret pe_non))
      pss_nil)
      (pss_cons (ps_if (pt_cmpR op_isN (pv 4) pe_non (nomark _))
      (pss_one (ps_ret pe_int))
      pss_nil)
      (pss_one (ps_ret (pv 4)))))))))), ?_⟩
      have hpb : p < s.begun.length := by rw [ho.bl]; exact hp
      obtain ⟨g, hg, hgl, hset⟩ := r.setB hpb
      have hlen : (s.begun.getD p []).length ≤ 1001 := by
        have := ho.begun_len (s.begun.getD p []) (by rw [List.getD_eq_getElem?_getD, List.getElem?_eq_getElem hpb]; exact List.getElem_mem _)
        have := he.bl
        omega
      refine q_asg (v := .ref g) (ev_op (ev_st (j := 6) r (ev_var rfl) rfl) (ev_var rfl) (rv_ixL (ex_l r.own.ex r.hG) (atI_nat (by rw [List.getElem?_map, hg]; rfl)))) fun H1 e1 => ?_
      have r1 := r.mono e1
      have hg1 := e1 _ _ hgl
      generalize hL : s.begun.getD p [] = L at *
      -- begun at this bit?
      have tst : EvT (tAnd (tTest (tOp (rI0 fun i j => .bl (decide (j < i))) (tCB (rLenS K) (tCons (tVar 3) tNil)) (tC (.int 0)))) (tTest (tOp rEq (tOp (rIxL K) (tVar 3) (tOp (rI0 fun i j => .int (i - j)) (tCB (rLenS K) (tCons (tVar 3) tNil)) (tC (.int 1)))) (tOp (rIxL K) (tVar 1) (tC (.int 1)))))) [some bov, some (.ref S), some (.int (p : Int)), some (.ref g), none] H1 (decide (L.getLast? = some s.taken)) := by
        have hll : Ev (tCB (rLenS K) (tCons (tVar 3) tNil)) [some bov, some (.ref S), some (.int (p : Int)), some (.ref g), none] H1 (.int (L.length : Int)) := ev_is (ev_lenS (ev_var rfl) (.inl (sq_of hg1))) (by rw [List.length_map])
        by_cases hz : L = []
        · subst hz
          exact et_is (et_and (a := false) (b := false) (et_is (et_test (ev_op hll ev_c rv_I0)) rfl) (fun z => (nomatch z))) rfl
        · have hpos : 0 < L.length := List.length_pos_iff.mpr hz
          have hlast : L.getLast? = some (L.getD (L.length - 1) 0) := by
            rw [List.getLast?_eq_getElem?, List.getD_eq_getElem?_getD, List.getElem?_eq_getElem (by omega)]; rfl
          refine et_is (et_and (a := true) (b := decide (L.getLast? = some s.taken)) (et_is (et_test (ev_op hll ev_c rv_I0)) (decide_eq_true (by omega))) fun _ => et_is (et_test (ev_op (ev_op (z := .int ((L.getD (L.length - 1) 0 : Nat) : Int)) (ev_var rfl) (ev_is (ev_op hll ev_c rv_I0) (show V.int ((L.length : Int) - 1) = V.int ((L.length - 1 : Nat) : Int) from congrArg V.int (by omega))) (rv_ixL (sq_of hg1) (atI_nat (j := L.length - 1) (by rw [List.getElem?_map, List.getD_eq_getElem?_getD, List.getElem?_eq_getElem (by omega)]; rfl)))) (ev_st (j := 1) r1 (ev_var rfl) rfl) (rv_eq rfl))) ?_) (Bool.true_and _)
          rw [hlast]
          refine decide_eq_decide.mpr ⟨fun z => by rw [show L.getD (L.length - 1) 0 = s.taken by have := V.int.inj z; omega], fun z => by rw [Option.some.inj z]⟩
      refine q_when tst (fun hb H2 e2 => ?_) (fun hb H2 e2 => ?_)
      · have hb := of_decide_eq_true hb
        rw [if_pos hb] at hx
        cases hx
        have r2 := r1.mono e2
        refine q_setL (j := 7) r2.get (ev_un ev_c ru_neg) (ev_var rfl) ev_c (by show 7 < 8; decide) fun H3 e3 => ?_
        have r3 := (r2.mono e3).put (s2 := { s with err := some (.no (-2)) }) (N2 := N) (xs := (stO bt N G s).set 7 (.int (-2))) rfl rfl r2.hN
        exact s_ret ev_c fun H4 e4 => q Hd H4 N (Ex.refl _) (r3.mono e4)
      · have hb := of_decide_eq_false hb
        rw [if_neg hb] at hx
        have e12 := e1.trans e2
        refine q_app (e2 _ _ hg1) (ev_var rfl) (ev_st (j := 1) (r1.mono e2) (ev_var rfl) rfl) (by rw [List.length_map]; omega) fun H3 e3 => ?_
        have r3 := hset (L ++ [s.taken]) H3 (e12.trans e3)
        rw [List.map_append] at r3
        obtain ⟨Bd, xs, hBv, hBs, hBx⟩ := dp_lst he.dv
        have hbp : ∃ lv, okL c m (bo.getD p []) lv := by
          rw [List.getD_eq_getElem?_getD, List.getElem?_eq_getElem (by rw [he.ln]; exact hp)]
          exact he.ok _ (List.getElem_mem _)
        obtain ⟨pv, hpv, dpv⟩ := dpa_get hBx (show (bo.map bD)[p]? = some (bD (bo.getD p [])) by rw [List.getElem?_map, List.getD_eq_getElem?_getD, List.getElem?_eq_getElem (by rw [he.ln]; exact hp)]; rfl)
        subst hBv
        refine q_asgC (vs := [.ref Bd, .ref S, pv]) (ea_cons (ev_var rfl) (ea_cons (ev_var rfl) (ea_cons (ev_op (ev_var rfl) (ev_var rfl) (rv_ixL (ex_l r3.own.ex hBs) (atI_nat hpv))) ea_nil))) fun H4 e4 => ?_
        cases hf : lx bits bo d (.blk (bo.getD p [])) { s with begun := s.begun.set p (L ++ [s.taken]) } with
        | none => rw [hf] at hx; cases hx
        | some res =>
          obtain ⟨w1, s1⟩ := res
          rw [hf] at hx
          dsimp only at hx
          have h0 : LOk c bits m { s with begun := s.begun.set p (L ++ [s.taken]) } := proc_ok ho hp (by rw [hL]; exact hb) (by rw [hL])
          refine lx_call (t := .blk (bo.getD p [])) (as := [pv]) rfl ⟨_, rfl, dpv⟩ he (r3.mono e4) h0 hbp hf fun Hd5 H5 N5 g5 r5 k5 => ?_
          have hpb1 : p < s1.begun.length := by rw [k5.ok.bl]; exact hp
          obtain ⟨g', hg', hgl', hset'⟩ := r5.setB hpb1
          obtain rfl : g = g' := Option.some.inj (hg.symm.trans hg')
          have hL1 : s1.begun.getD p [] = L ++ [s.taken] := by
            rw [k5.bg]
            show (s.begun.set p (L ++ [s.taken])).getD p [] = _
            rw [getD_set _ _ _ _ _ hpb, if_pos rfl]
          rw [hL1, List.map_append] at hgl'
          refine ⟨.ref g, rfl, .inl ⟨rfl, _, sq_of hgl'⟩, g, _, nV s.taken, rfl, rfl, hgl', by simp, ?_⟩
          have r6 := hset' L H5 (Ex.refl _)
          rw [hL1, List.dropLast_concat] at hx
          have hdl : ((L.map nV) ++ [s.taken].map nV).dropLast = L.map nV := by rw [List.map_singleton, List.dropLast_concat]
          rw [hdl]
          refine q_when (b := s1.err.isSome) (et_is (et_test (ev_notN (ev_st (j := 7) r6 (ev_var rfl) rfl))) (er_some s1)) (fun hb7 H7 e7 => ?_) (fun hb7 H7 e7 => ?_)
          · rw [if_pos hb7] at hx
            cases hx
            exact s_ret ev_c fun H8 e8 => q Hd5 H8 N5 g5 ((r6.mono e7).mono e8)
          · rw [if_neg (by rw [hb7]; exact Bool.false_ne_true)] at hx
            cases hx
            cases w1 with
            | none =>
              refine q_when (b := true) (et_is (et_test (ev_isN (ev_var rfl))) rfl) (fun _ H8 e8 => ?_) (fun z => (nomatch z))
              exact s_ret ev_c fun H9 e9 => q Hd5 H9 N5 g5 (((r6.mono e7).mono e8).mono e9)
            | some w2 =>
              refine q_when (b := false) (et_is (et_test (ev_isN (ev_var rfl))) rfl) (fun z => (nomatch z)) (fun _ H8 e8 => ?_)
              exact s_ret (ev_var rfl) fun H9 e9 => q Hd5 H9 N5 g5 (((r6.mono e7).mono e8).mono e9)
    | _ => cases hk
end
section
variable {P : Program} {w : World} {K : PySem.W.Frag} {mg : Str → Option Value} {base : Heap} {σ : L2.St} {H H' : Hp} {te ta tb tc : TE} {E : XK}
/-! ### data out of parts -/
def EvDs (K : PySem.W.Frag) (ta : TA) (σ : L2.St) (H : Hp) (ds : List PyData) : Prop := ∀ H1, Ex H H1 → ∀ Q : List V → Hp → Prop, (∀ vs H2, Ex H1 H2 → DpAll K H2 vs ds → Q vs H2) → ta σ H1 Q
theorem ed_nil : EvDs K tNil σ H [] := fun H1 _ _ q => q [] H1 (Ex.refl H1) .nil
theorem ed_cons {tr : TA} {d : PyData} {ds : List PyData} (h : EvP te σ H (DP K d)) (hr : EvDs K tr σ H ds) : EvDs K (tCons te tr) σ H (d :: ds) := fun H1 e _ q =>
  h H1 e _ fun v H2 e2 f => hr H2 (e.trans e2) _ fun vs H3 e3 g => q (v :: vs) H3 (e2.trans e3) (.cons (dp_ex e3 _ _ f) g)
theorem ep_lstD {tr : TA} {ds : List PyData} (h : EvDs K tr σ H ds) (hl : ds.length ≤ 100000) : EvP (tLst tr) σ H (DP K (.list ds)) := fun H1 e _ q =>
  h H1 e _ fun vs H2 e2 g => ⟨sz_of (by rw [dpa_len g]; exact hl), fun p hp => q _ _ (e2.trans (Ex.new hp)) (.lst (sq_of upd_same) (dpa_ex (Ex.new hp) _ _ g))⟩
theorem ep_tupD {tr : TA} {ds : List PyData} (h : EvDs K tr σ H ds) (hl : ds.length ≤ 100000) : EvP (tTup tr) σ H (DP K (.tuple ds)) := fun H1 e _ q =>
  h H1 e _ fun vs H2 e2 g => ⟨sz_of (by rw [dpa_len g]; exact hl), fun p hp => q _ _ (e2.trans (Ex.new hp)) (.tup (st_of upd_same) (dpa_ex (Ex.new hp) _ _ g))⟩
end
/-! ### the whole execution of the law -/
section
variable {P : Program} {w : World} {K : PySem.W.Frag} {mg : Str → Option Value} {base : Heap} {σ : L2.St} {Hd Hd' H H' H0 H1 : Hp}
variable {S bt G N : Addr} {gs : List Addr} {bits : List Nat} {s s2 : Ls} {c m : Nat} {bov : V} {bo : List (List Stm)}
theorem fnR_zero {f : Addr} {fd : FuncData} {ps : List Str} {kk : Nat} : FnR P w K mg base 0 f fd ps (spLx K 0 kk) :=
  ⟨fun _ _ _ _ h => (by obtain ⟨_, _, _, _, _, _, _, _, _, _, _, _, _, _, _, _, _, _, _, _, _, _, _, h, _⟩ := h; rw [lx] at h; cases h), fun _ _ _ _ _ _ _ _ _ _ _ _ _ h => (by obtain ⟨_, _, _, _, _, _, _, _, _, _, _, _, _, _, _, _, _, _, _, _, _, _, _, h, _⟩ := h; rw [lx] at h; cases h)⟩
theorem lx_all {f0 f1 f2 f3 f4 f5 : Addr} {fd0 fd1 fd2 fd3 fd4 fd5 : FuncData} (F0 : Fun K "_law_execute" "_law_execute" s_law_execute f0 fd0) (F1 : Fun K "_law_execute_one" "_law_execute_one" s_law_execute_one f1 fd1) (F2 : Fun K "_law_execute_keep" "_law_execute_keep" s_law_execute_keep f2 fd2)
    (F3 : Fun K "_law_execute_again" "_law_execute_again" s_law_execute_again f3 fd3) (F4 : Fun K "_law_execute_call" "_law_execute_call" s_law_execute_call f4 fd4) (F5 : Fun K "_law_execute_procedure" "_law_execute_procedure" s_law_execute_procedure f5 fd5)
    (g0 : mg "_law_execute" = some (.ref f0)) (g1 : mg "_law_execute_one" = some (.ref f1)) (g2 : mg "_law_execute_keep" = some (.ref f2)) (g3 : mg "_law_execute_again" = some (.ref f3)) (g4 : mg "_law_execute_call" = some (.ref f4)) (g5 : mg "_law_execute_procedure" = some (.ref f5))
    (b0 : Binds K fd0 ["bodies", "state", "block"] []) (b1 : Binds K fd1 ["bodies", "state", "statement"] []) (b2 : Binds K fd2 ["bodies", "state", "kept", "block"] []) (b3 : Binds K fd3 ["bodies", "state", "block"] []) (b4 : Binds K fd4 ["bodies", "state", "statement"] []) (b5 : Binds K fd5 ["bodies", "state", "procedure"] [])
    (z_len : mg "len" = none) (z_list : mg "list" = none) (z_range : mg "range" = none) (C_law_bit : Cal P w K mg base 1 "_law_bit" (spLBit K) []) (C_law_value : Cal P w K mg base 1 "_law_value" (spLVal K) []) : ∀ d, CalR P w K mg base d "_law_execute" (spLx K d 0) ∧ CalR P w K mg base d "_law_execute_one" (spLx K d 1) ∧ CalR P w K mg base d "_law_execute_keep" (spLx K d 2) ∧ CalR P w K mg base d "_law_execute_again" (spLx K d 3) ∧ CalR P w K mg base d "_law_execute_call" (spLx K d 4) ∧ CalR P w K mg base d "_law_execute_procedure" (spLx K d 5)
  | 0 => ⟨⟨_, _, _, fnR_zero, g0, F0.kp, b0⟩, ⟨_, _, _, fnR_zero, g1, F1.kp, b1⟩, ⟨_, _, _, fnR_zero, g2, F2.kp, b2⟩, ⟨_, _, _, fnR_zero, g3, F3.kp, b3⟩, ⟨_, _, _, fnR_zero, g4, F4.kp, b4⟩, ⟨_, _, _, fnR_zero, g5, F5.kp, b5⟩⟩
  | d + 1 => by
    obtain ⟨c0, c1, c2, c3, c4, c5⟩ := lx_all F0 F1 F2 F3 F4 F5 g0 g1 g2 g3 g4 g5 b0 b1 b2 b3 b4 b5 z_len z_list z_range C_law_bit C_law_value d
    exact ⟨⟨_, _, _, ok_lexec F0 c1, g0, F0.kp, b0⟩, ⟨_, _, _, ok_lone F1 z_list C_law_bit C_law_value c0 c2 c3 c4, g1, F1.kp, b1⟩, ⟨_, _, _, ok_lkeep F2 z_list c0, g2, F2.kp, b2⟩, ⟨_, _, _, ok_lagain F3 z_range z_len C_law_bit c0, g3, F3.kp, b3⟩, ⟨_, _, _, ok_lcall F4 C_law_value c0 c5, g4, F4.kp, b4⟩, ⟨_, _, _, ok_lproc F5 z_len c0, g5, F5.kp, b5⟩⟩
/-- what it tells -/
def wyD : Option Nat → PyData
  | none => .none
  | some w => .int (w : Int)
def lpD (bits : List Nat) (r : Option Nat × Ls) : PyData := match r.2.err with
  | some .long => .list [.str "long"]
  | some (.no i) => .list [.str "no", .int i]
  | none => if r.2.taken < bits.length then .list [.str "no", .int (r.2.taken : Int)] else .list [.str "run", wyD r.1, .tuple (r.2.stand.map PyData.int), .int r.2.load, .int (r.2.len : Int)]
def ls0 (bo : List (List Stm)) (v : List Int) (l : Int) : Ls := ⟨0, v, l, 0, 0, bo.map fun _ => [], none⟩
theorem s_retD {te : TE} {d : PyData} {D : Ends} (h : EvP te σ H (DP K d)) (k : ∀ u H1, Ex H H1 → Dp K H1 u d → D.rt u H1) : tRet te D σ H := h H (Ex.refl H) _ fun v H1 e f => k v H1 e f
theorem ep_tupL {te : TE} {v : List Int} (h : EvU te σ H (v.map V.int)) : EvP te σ H (DP K (.tuple (v.map PyData.int))) := fun H1 e Q q => h H1 e _ fun p H2 _ e2 hp => q _ _ e2 (.tup (.inl (.inl hp)) (dpa_ints v))
theorem wy_dp (w : Option Nat) : Dp K H (wyV w) (wyD w) := by
  cases w with
  | none => exact .non
  | some w => exact .int _
theorem ls0_ok {v : List Int} {l : Int} (hv : v.length = c) : LOk c bits bo.length (ls0 bo v l) := by
  refine ⟨Nat.zero_le _, hv, by show (bo.map _).length = _; rw [List.length_map], fun p => ?_⟩
  have : (ls0 bo v l).begun.getD p [] = [] := ini_get p
  rw [this]
  exact ⟨List.Pairwise.nil, fun _ h => (nomatch h)⟩
def spLP (K : PySem.W.Frag) (d : Nat) : Sp := fun vs H Q _ => ∃ (bov : V) (bt T : Addr) (bits : List Nat) (bo : List (List Stm)) (c m p : Nat) (v : List Int) (l : Int) (r : Option Nat × Ls), vs = [bov, .int (p : Int), .ref bt, .ref T, .int l] ∧ LEnv K H bov bo bits c m ∧ SqL K H bt (bits.map nV) ∧ (SqL K H T (v.map V.int) ∨ SqT K H T (v.map V.int)) ∧ v.length = c ∧ p < m ∧ lx bits bo d (.proc p) (ls0 bo v l) = some r ∧
  ∀ u H', Ex H H' → Dp K H' u (lpD bits r) → Q u H'
theorem bgL_app : ∀ (gs : List Addr) (ls : List (List Nat)) (g : Addr) (l : List Nat), gs.length = ls.length → bgL (gs ++ [g]) (ls ++ [l]) = bgL gs ls ++ [(g, .lst (l.map nV))]
  | [], [], _, _, _ => rfl
  | [], _ :: _, _, _, h => by cases h
  | _ :: _, [], _, _, h => by cases h
  | a :: gs, b :: ls, g, l, h => by
    show (a, _) :: bgL (gs ++ [g]) (ls ++ [l]) = (a, _) :: (bgL gs ls ++ _)
    rw [bgL_app gs ls g l (Nat.succ.inj h)]
theorem rep_bits (h : SqL K H bt (bits.map nV)) (n : Nat) : bits.map nV = (bits.map (Nat.cast : Nat → Int)).map V.int := by rw [List.map_map]; rfl
theorem ok_lplayed {f : Addr} {fd : FuncData} {d k : Nat} (F : Fun K "_law_played" "_law_played" s_law_played f fd) (z_len : mg "len" = none) (z_list : mg "list" = none) (z_tuple : mg "tuple" = none) (C_law_execute_procedure : CalR P w K mg base d "_law_execute_procedure" (spLx K d 5)) (hk : d + 35 ≤ 3 * k) (hk2 : 3 * d + 400 ≤ 16 * k) :
    FnOk P w K mg base CX0 (k + 1) f fd ["bodies", "procedure", "bits", "stand", "load"] (spLP K d) := by
  have sc := sc_law_played
  refine F.ok sc (fun vs H Q E h => ?_) (fun cdv A outer s H vs Q E hr h => ?_)
  · obtain ⟨bov, bt, T, bits, bo, c, m, p, v, l, r, rfl, _⟩ := h
    rfl
  · obtain ⟨bov, bt, T, bits, bo, c, m, p, v, l, r, rfl, he, hbt, hT, hvc, hp, hx, q⟩ := h
    have hrr := roomR_of hr hk hk2
    refine ⟨_, (pss_cons (ps_set (i := 5) sc.nd rfl (by first | exact Or.inl rfl | exact Or.inr rfl) (pe_lst (pa_cons (pv 2) (pa_cons pe_int (pa_cons (pe_callTy call_list_of (by rfl) z_list (by decide +kernel) (pa_cons (pv 3) pa_nil)) (pa_cons (pv 4) (pa_cons pe_int (pa_cons pe_int (pa_cons (pe_lc (own := [("body", 7)]) (by rfl) sc.nd (pi_list (pv 0)) (blkOk_by (own := [("body", 7)]) (N := ["bodies", "procedure", "bits", "stand", "load", "state", "way", "body"]) (sc := defScope s_law_played) (by decide +kernel)) (fun _ _ _ _ _ => (pg_name (i := 7) sc.nd rfl (by first | exact Or.inl rfl | exact Or.inr rfl))) (fun _ _ _ _ _ => pts_nil) (fun _ _ _ _ _ => (pe_lst pa_nil))) (pa_cons pe_non pa_nil))))))))))
      (pss_cons (ps_set (i := 6) sc.nd rfl (by first | exact Or.inl rfl | exact Or.inr rfl) (pe_cR C_law_execute_procedure hrr (by omega) (by rfl) (pa_cons (pv 0) (pa_cons (pv 5) (pa_cons (pv 1) pa_nil)))))
      (pss_cons (ps_if (pt_cmpR op_eq (pe_ix ix_list (pv 5) pe_int (fun _ _ => rfl)) pe_str (nomark _))
      (pss_one (ps_ret (pe_lst (pa_cons pe_str pa_nil))))
      pss_nil)
      (pss_cons (ps_if (pt_cmpR op_notN (pe_ix ix_list (pv 5) pe_int (fun _ _ => rfl)) pe_non (nomark _))
      (pss_one (ps_ret (pe_lst (pa_cons pe_str (pa_cons (pe_ix ix_list (pv 5) pe_int (fun _ _ => rfl)) pa_nil)))))
      pss_nil)
      (pss_cons (ps_if (pt_cmpR op_lt (pe_ix ix_list (pv 5) pe_int (fun _ _ => rfl)) (pe_callB call_len_seq (by rfl) z_len (by decide +kernel) (pa_cons (pv 2) pa_nil)) (nomark _))
      (pss_one (ps_ret (pe_lst (pa_cons pe_str (pa_cons (pe_ix ix_list (pv 5) pe_int (fun _ _ => rfl)) pa_nil)))))
      pss_nil)
      (pss_one (ps_ret (pe_lst (pa_cons pe_str (pa_cons (pv 6) (pa_cons (pe_callTy call_tuple_of (by rfl) z_tuple (by decide +kernel) (pa_cons (pe_ix ix_list (pv 5) pe_int (fun _ _ => rfl)) pa_nil)) (pa_cons (pe_ix ix_list (pv 5) pe_int (fun _ _ => rfl)) (pa_cons (pe_ix ix_list (pv 5) pe_int (fun _ _ => rfl)) pa_nil))))))))))))), ?_⟩
    obtain ⟨Bd, xs, rfl, hBs, hBx⟩ := dp_lst he.dv
    have lxs : xs.length = bo.length := by rw [dpa_len hBx, List.length_map]
    -- state = [..]
    refine ⟨.ref bt, rfl, .ref T, rfl, T, v.map V.int, rfl, hT, fun N nN => ⟨.int l, rfl, ?_⟩⟩
    have e1 := Ex.new (o := .lst (v.map V.int)) nN
    refine ⟨.ref Bd, rfl, Bd, rfl, ⟨xs, ex_l e1 hBs⟩, fun G nG => ?_⟩
    have e2 := Ex.new (o := .lst []) nG
    have o0 : Own (upd H N (.lst (v.map V.int))) [(G, .lst [])] (upd (upd H N (.lst (v.map V.int))) G (.lst [])) := own_one e2 nG upd_same
    refine lc_list (xs := xs) (fun i H' => ∃ gs : List Addr, gs.length = i ∧ Own (upd H N (.lst (v.map V.int))) ((G, .lst (gs.map V.ref)) :: bgL gs (List.replicate i [])) H') ⟨[], rfl, o0⟩ (fun i H' _ ⟨_, _, o⟩ => ex_l (e1.trans o.ex) hBs) (fun i y H' hy hP => ?_) (fun H3 hP => ?_)
    · obtain ⟨gs, hg, o⟩ := hP
      have hi : i < xs.length := (List.getElem?_eq_some_iff.mp hy).1
      have := he.ln
      show wipe ((wipe _ _).set _ (some y)) _ = wipe _ _ ∧ _
      refine ⟨rfl, by show 0 ≤ sizeLine; decide, fun L nL => ?_⟩
      have o' := Own.new (La := (G, .lst (gs.map V.ref)) :: bgL gs (List.replicate i [])) (Lb := []) (by rw [List.append_nil]; exact o) (Ex.new (o := .lst []) nL) nL upd_same
      refine ⟨gs.map V.ref, o'.get (by simp), by rw [List.length_map]; exact sz_lt (by have := he.m3; omega), gs ++ [L], by rw [List.length_append, hg]; rfl, ?_⟩
      have o'' := Own.upd (La := []) o' (.lst (gs.map V.ref ++ [.ref L]))
      rw [List.map_append, List.replicate_succ', bgL_app _ _ _ _ (by rw [hg, List.length_replicate])]
      exact o''
    · obtain ⟨gs, hg, o⟩ := hP
      obtain ⟨o4, g4⟩ := Own.rest (La := []) o
      refine ⟨by show 8 ≤ sizeLine; decide, fun S nS => ?_⟩
      have hbeg : (ls0 bo v l).begun = List.replicate xs.length [] := by
        show (bo.map fun _ => ([] : List Nat)) = _
        rw [lxs, List.map_const']
      have o5 := Own.new (La := []) o4 (Ex.new (o := .lst (stO bt N G (ls0 bo v l))) nS) nS upd_same
      have e02 := e1.trans g4
      have r5 : LRep K (upd (upd H N (.lst (v.map V.int))) G (.lst (gs.map V.ref))) (upd H3 S (.lst (stO bt N G (ls0 bo v l)))) S bt G gs bits (ls0 bo v l) N := by
        refine ⟨by rw [hbeg]; exact o5, sq_of (g4 _ _ upd_same), ex_l e02 hbt, sq_of upd_same, by rw [hbeg, List.length_replicate]; exact hg⟩
      have ho : LOk c bits m (ls0 bo v l) := by rw [← he.ln]; exact ls0_ok hvc
      obtain ⟨w1, s1⟩ := r
      show tSeq _ _ _ [some (.ref Bd), some (.int (p : Int)), some (.ref bt), some (.ref T), some (.int l), some (.ref S), none, none] (upd H3 S (.lst (stO bt N G (ls0 bo v l))))
      refine q_asgC (ea_cons (ev_var rfl) (ea_cons (ev_var rfl) (ea_cons (ev_var rfl) ea_nil))) fun H6 e6 => ?_
      refine lx_call (t := .proc p) (as := [.int (p : Int)]) rfl rfl (he.ex e02) (r5.mono e6) ho hp hx fun Hd7 H7 N7 g7 r7 k7 => ?_
      have g07 := e02.trans g7
      have fin : ∀ {Ha Hb : Hp} {u : V}, Ex H7 Ha → Ex Ha Hb → Dp K Hb u (lpD bits (w1, s1)) → Q u Hb := fun e e2 hd => q _ _ (((g07.trans r7.own.ex).trans e).trans e2) hd
      have slen : scal (erV s1.err) (.str "long") = true := by
        cases s1.err with
        | none => rfl
        | some z => cases z <;> rfl
      cases her : s1.err with
      | some z =>
        cases z with
        | long =>
          refine q_when (b := true) (et_is (et_test (ev_op (ev_st (j := 7) r7 (ev_var rfl) rfl) ev_c (rv_eq slen))) (by rw [her]; rfl)) (fun _ H8 e8 => ?_) (fun y => (nomatch y))
          refine s_retD (K := K) (d := .list [.str "long"]) (ep_lstD (ed_cons (ep_dp ev_c (.str _)) ed_nil) (by decide)) fun u H9 e9 hu => fin e8 e9 ?_
          rw [lpD, her]
          exact hu
        | no i =>
          refine q_when (b := false) (et_is (et_test (ev_op (ev_st (j := 7) r7 (ev_var rfl) rfl) ev_c (rv_eq slen))) (by rw [her]; rfl)) (fun y => (nomatch y)) (fun _ H8 e8 => ?_)
          refine q_when (b := true) (et_is (et_test (ev_notN (ev_st (j := 7) (r7.mono e8) (ev_var rfl) rfl))) (by rw [her]; rfl)) (fun _ H9 e9 => ?_) (fun y => (nomatch y))
          refine s_retD (K := K) (d := .list [.str "no", .int i]) (ep_lstD (ed_cons (ep_dp ev_c (.str _)) (ed_cons (ep_dp (v := .int i) (ev_st (j := 7) ((r7.mono e8).mono e9) (ev_var rfl) (by show some (erV s1.err) = _; rw [her]; rfl)) (.int i)) ed_nil)) (by show 2 ≤ 100000; decide)) fun u H10 e10 hu => fin (e8.trans e9) e10 ?_
          rw [lpD, her]
          exact hu
      | none =>
        refine q_when (b := false) (et_is (et_test (ev_op (ev_st (j := 7) r7 (ev_var rfl) rfl) ev_c (rv_eq slen))) (by rw [her]; rfl)) (fun y => (nomatch y)) (fun _ H8 e8 => ?_)
        refine q_when (b := false) (et_is (et_test (ev_notN (ev_st (j := 7) (r7.mono e8) (ev_var rfl) rfl))) (by rw [her]; rfl)) (fun y => (nomatch y)) (fun _ H9 e9 => ?_)
        have r9 := (r7.mono e8).mono e9
        have e89 := e8.trans e9
        refine q_when (b := decide (s1.taken < bits.length)) (et_is (et_test (ev_op (ev_st (j := 1) r9 (ev_var rfl) rfl) (ev_lenS (ev_var rfl) (.inl (ex_l r9.own.ex r9.hb))) rv_I0)) (by simp)) (fun hb H10 e10 => ?_) (fun hb H10 e10 => ?_)
        · have hb := of_decide_eq_true hb
          refine s_retD (K := K) (d := .list [.str "no", .int (s1.taken : Int)]) (ep_lstD (ed_cons (ep_dp ev_c (.str _)) (ed_cons (ep_dp (ev_st (j := 1) (r9.mono e10) (ev_var rfl) rfl) (.int _)) ed_nil)) (by show 2 ≤ 100000; decide)) fun u H11 e11 hu => fin (e89.trans e10) e11 ?_
          rw [lpD]
          dsimp only
          rw [her]
          dsimp only
          rw [if_pos hb]
          exact hu
        · have hb := of_decide_eq_false hb
          have ra := r9.mono e10
          refine s_retD (K := K) (d := .list [.str "run", wyD w1, .tuple (s1.stand.map PyData.int), .int s1.load, .int (s1.len : Int)]) (ep_lstD (ed_cons (ep_dp ev_c (.str _)) (ed_cons (ep_dp (ev_var rfl) (wy_dp w1)) (ed_cons (ep_tupL (eu_tupL (ev_st (j := 2) ra (ev_var rfl) rfl) (ex_l ra.own.ex ra.hN))) (ed_cons (ep_dp (ev_st (j := 3) ra (ev_var rfl) rfl) (.int _)) (ed_cons (ep_dp (ev_st (j := 4) ra (ev_var rfl) rfl) (.int _)) ed_nil))))) (by show 5 ≤ 100000; decide)) fun u H11 e11 hu => fin (e89.trans e10) e11 ?_
          rw [lpD]
          dsimp only
          rw [her]
          dsimp only
          rw [if_neg hb]
          exact hu
end
/-! ### how deep it may go -/
section
variable {c m : Nat} {bits : List Nat} {bo : List (List Stm)}
/-- the place of the last begin -/
def posB (l : List Nat) : Nat := match l.getLast? with
  | none => 0
  | some x => x + 1
/-- begins that may still be nested -/
def mB (n : Nat) (bg : List (List Nat)) : Nat := (bg.map fun l => n + 1 - posB l).sum
theorem mB_set (n : Nat) : ∀ (bg : List (List Nat)) (p : Nat) (l : List Nat), p < bg.length → posB (bg.getD p []) < posB l → posB l ≤ n + 1 → mB n (bg.set p l) + 1 ≤ mB n bg
  | [], p, _, h, _, _ => absurd h (Nat.not_lt_zero _)
  | a :: r, 0, l, _, h1, h2 => by
    have h1 : posB a < posB l := h1
    show (n + 1 - posB l) + mB n r + 1 ≤ (n + 1 - posB a) + mB n r
    omega
  | a :: r, p + 1, l, h, h1, h2 => by
    have := mB_set n r p l (Nat.lt_of_succ_lt_succ h) h1 h2
    show (n + 1 - posB a) + mB n (r.set p l) + 1 ≤ (n + 1 - posB a) + mB n r
    omega
theorem posB_app (l : List Nat) (x : Nat) : posB (l ++ [x]) = x + 1 := by
  rw [posB, List.getLast?_concat]
theorem okS_lv {c m lv : Nat} {x : Stm} (h : okS c m x lv) : (match x with | .keep _ _ => lv < 3 | .either _ _ => lv < 3 | .again _ => lv < 3 | .call _ _ _ _ => lv < 3 | _ => True) := by
  cases x with
  | set k r => trivial
  | carry r => trivial
  | fin w => trivial
  | keep cs b => rw [okS] at h; exact h.1
  | either a b => rw [okS] at h; exact h.1
  | again b => rw [okS] at h; exact h.1
  | call p r a b => rw [okS] at h; exact h.1
theorem lxL_some {f : Stm → Ls → LR} {lv : Nat} {bg : List (List Nat)} (hf : ∀ x s, okS c m x lv → LOk c bits m s → s.begun = bg → ∃ r, f x s = some r) (hk : ∀ x s w s', okS c m x lv → LOk c bits m s → f x s = some (w, s') → LKeep c bits m s s') :
    ∀ (b : List Stm) (s : Ls), okL c m b lv → LOk c bits m s → s.begun = bg → ∃ r, lxL f b s = some r
  | [], s, _, _, _ => ⟨_, by rw [lxL]⟩
  | x :: r, s, hb, h, e => by
    rw [okL] at hb
    rw [lxL]
    split
    · exact ⟨_, rfl⟩
    · obtain ⟨⟨w, s'⟩, hr⟩ := hf x s hb.1 h e
      have k1 := hk x s w s' hb.1 h hr
      rw [hr]
      cases w with
      | some w => exact ⟨_, rfl⟩
      | none => exact lxL_some hf hk r s' hb.2 k1.ok (k1.bg.trans e)
theorem lxA_some {f : Ls → LR} {bg : List (List Nat)} (hf : ∀ s, LOk c bits m s → s.begun = bg → ∃ r, f s = some r) (hk : ∀ s w s', LOk c bits m s → f s = some (w, s') → LKeep c bits m s s') : ∀ (n : Nat) (s : Ls), LOk c bits m s → s.begun = bg → ∃ r, lxA bits f n s = some r
  | 0, s, _, _ => ⟨_, by rw [lxA]⟩
  | n + 1, s, h, e => by
    rw [lxA]
    have k0 := bit_keep h
    split
    · exact ⟨_, rfl⟩
    · obtain ⟨⟨w, s'⟩, hr⟩ := hf _ k0.ok (k0.bg.trans e)
      have k1 := hk _ w s' k0.ok hr
      rw [hr]
      dsimp only
      split
      · exact ⟨_, rfl⟩
      · exact lxA_some hf hk n s' k1.ok (k1.bg.trans (k0.bg.trans e))
/-- what is needed -/
def needT (lv M : Nat) : Tk → Nat
  | .blk _ => 11 - 3 * lv + 10 * M
  | .one _ => 10 - 3 * lv + 10 * M
  | .keep _ _ => 9 - 3 * lv + 10 * M
  | .again _ => 9 - 3 * lv + 10 * M
  | .call _ _ _ _ => 9 - 3 * lv + 10 * M
  | .proc _ => 2 + 10 * M
def TkLv (c m lv : Nat) : Tk → Prop
  | .blk b => lv ≤ 3 ∧ okL c m b lv
  | .one x => lv ≤ 3 ∧ okS c m x lv
  | .keep cs b => lv < 3 ∧ (∀ k ∈ cs, k < c) ∧ cs.length ≤ 1000 ∧ okL c m b (lv + 1)
  | .again b => lv < 3 ∧ okL c m b (lv + 1)
  | .call p r a b => lv < 3 ∧ p < m ∧ okR c r ∧ okL c m a (lv + 1) ∧ okL c m b (lv + 1)
  | .proc p => p < m
theorem tk_of {lv : Nat} {t : Tk} (h : TkLv c m lv t) : TkOk c m t := by
  cases t with
  | blk b => exact ⟨_, h.2⟩
  | one x => exact ⟨_, h.2⟩
  | keep cs b => exact ⟨h.2.1, h.2.2.1, _, h.2.2.2⟩
  | again b => exact ⟨_, h.2⟩
  | call p r a b => exact ⟨h.2.1, h.2.2.1, ⟨_, h.2.2.2.1⟩, ⟨_, h.2.2.2.2⟩⟩
  | proc p => exact h
theorem lx_some (hbo : ∀ b ∈ bo, okL c m b 0) (hm : bo.length = m) (hc : c ≤ 3) : ∀ (d : Nat) (t : Tk) (lv : Nat) (s : Ls), TkLv c m lv t → LOk c bits m s → needT lv (mB bits.length s.begun) t ≤ d → ∃ r, lx bits bo d t s = some r
  | 0, t, lv, s, ht, _, hn => by
    cases t <;> simp only [needT, TkLv] at hn ht <;> omega
  | d + 1, .blk b, lv, s, ⟨hl, hb⟩, h, hn => by
    rw [lx]
    simp only [needT] at hn
    exact lxL_some (bg := s.begun) (fun x s1 hx h1 e1 => lx_some hbo hm hc d (.one x) lv s1 ⟨hl, hx⟩ h1 (by simp only [needT]; rw [e1]; omega)) (fun x s1 w s2 hx h1 e1 => lx_keep (fun b hb => ⟨0, hbo b hb⟩) hm hc d (.one x) s1 w s2 ⟨lv, hx⟩ h1 e1) b s hb h rfl
  | d + 1, .one x, lv, s, ⟨hl, hx⟩, h, hn => by
    rw [lx]
    simp only [needT] at hn
    have h1 : LOk c bits m { s with cnt := s.cnt + 1 } := h.of rfl
    have hbg : ({ s with cnt := s.cnt + 1 } : Ls).begun = s.begun := rfl
    split
    · exact ⟨_, rfl⟩
    · cases x with
      | set k r => exact ⟨_, rfl⟩
      | carry r => exact ⟨_, rfl⟩
      | keep cs b =>
        rw [okS] at hx
        exact lx_some hbo hm hc d (.keep cs b) lv _ ⟨hx.1, hx.2.1.2, by have := asc_len hx.2.1; omega, hx.2.2.2⟩ h1 (by show 9 - 3 * lv + 10 * mB bits.length s.begun ≤ d; omega)
      | either a b =>
        rw [okS] at hx
        have k2 := bit_keep h1
        refine lx_some hbo hm hc d (.blk _) (lv + 1) _ ⟨by omega, ?_⟩ k2.ok (by show 11 - 3 * (lv + 1) + 10 * mB bits.length (bitL bits _).2.begun ≤ d; rw [k2.bg]; show 11 - 3 * (lv + 1) + 10 * mB bits.length s.begun ≤ d; omega)
        split
        · exact hx.2.2.1
        · exact hx.2.2.2.2
      | again b =>
        rw [okS] at hx
        exact lx_some hbo hm hc d (.again b) lv _ ⟨hx.1, hx.2.2⟩ h1 (by show 9 - 3 * lv + 10 * mB bits.length s.begun ≤ d; omega)
      | call p r a b =>
        rw [okS] at hx
        exact lx_some hbo hm hc d (.call p r a b) lv _ ⟨hx.1, hx.2.1, hx.2.2.1, hx.2.2.2.2.1, hx.2.2.2.2.2.2⟩ h1 (by show 9 - 3 * lv + 10 * mB bits.length s.begun ≤ d; omega)
      | fin w1 => exact ⟨_, rfl⟩
  | d + 1, .keep cs b, lv, s, ⟨hl, _, _, hb⟩, h, hn => by
    rw [lx]
    simp only [needT] at hn
    obtain ⟨⟨w, s1⟩, hr⟩ := lx_some hbo hm hc d (.blk b) (lv + 1) s ⟨by omega, hb⟩ h (by simp only [needT]; omega)
    rw [hr]
    exact ⟨_, rfl⟩
  | d + 1, .again b, lv, s, ⟨hl, hb⟩, h, hn => by
    rw [lx]
    simp only [needT] at hn
    exact lxA_some (bg := s.begun) (fun s1 h1 e1 => lx_some hbo hm hc d (.blk b) (lv + 1) s1 ⟨by omega, hb⟩ h1 (by simp only [needT]; rw [e1]; omega)) (fun s1 w s2 h1 e1 => lx_keep (fun b hb => ⟨0, hbo b hb⟩) hm hc d (.blk b) s1 w s2 ⟨_, hb⟩ h1 e1) _ s h rfl
  | d + 1, .call p r a b, lv, s, ⟨hl, hp, _, ha, hb⟩, h, hn => by
    rw [lx]
    simp only [needT] at hn
    have h0 : LOk c bits m { s with load := totL r s.stand s.load } := h.of rfl
    obtain ⟨⟨w, s1⟩, hr⟩ := lx_some hbo hm hc d (.proc p) lv { s with load := totL r s.stand s.load } hp h0 (by show 2 + 10 * mB bits.length s.begun ≤ d; omega)
    have k1 := lx_keep (fun b hb => ⟨0, hbo b hb⟩) hm hc d (.proc p) _ w s1 hp h0 hr
    rw [hr]
    cases w with
    | none => exact ⟨_, rfl⟩
    | some w =>
      refine lx_some hbo hm hc d (.blk _) (lv + 1) _ ⟨by omega, ?_⟩ (k1.ok.of rfl) ?_
      · split
        · exact ha
        · exact hb
      · show 11 - 3 * (lv + 1) + 10 * mB bits.length s1.begun ≤ d
        have : s1.begun = s.begun := k1.bg
        rw [this]
        omega
  | d + 1, .proc p, lv, s, hp, h, hn => by
    rw [lx]
    simp only [needT] at hn
    have hp : p < m := hp
    split
    · exact ⟨_, rfl⟩
    · rename_i hne
      have hpl : p < bo.length := by omega
      have hbp : okL c m (bo.getD p []) 0 := by
        rw [List.getD_eq_getElem?_getD, List.getElem?_eq_getElem hpl]
        exact hbo _ (List.getElem_mem _)
      have h0 := proc_ok0 h hp hne
      have hM : mB bits.length (s.begun.set p (s.begun.getD p [] ++ [s.taken])) + 1 ≤ mB bits.length s.begun := by
        refine mB_set _ _ _ _ (by rw [h.bl]; exact hp) ?_ (by rw [posB_app]; have := h.tk; omega)
        rw [posB_app, posB]
        split
        · omega
        · rename_i x hx
          have hmem : x ∈ s.begun.getD p [] := List.mem_of_getLast? hx
          have h1 := (h.inc p).2 x hmem
          have : x ≠ s.taken := fun z => hne (by rw [hx, z])
          omega
      obtain ⟨⟨w, s1⟩, hr⟩ := lx_some hbo hm hc d (.blk (bo.getD p [])) 0 _ ⟨by omega, hbp⟩ h0 (by show 11 - 3 * 0 + 10 * mB bits.length (s.begun.set p (s.begun.getD p [] ++ [s.taken])) ≤ d; omega)
      rw [hr]
      dsimp only
      split
      · exact ⟨_, rfl⟩
      · exact ⟨_, rfl⟩
/-- from the start -/
theorem mB_ini (n : Nat) : ∀ bo : List (List Stm), mB n (bo.map fun _ => []) = bo.length * (n + 1)
  | [] => by rw [List.length_nil, Nat.zero_mul]; rfl
  | a :: r => by
    show (n + 1 - 0) + mB n (r.map fun _ => []) = _
    rw [mB_ini n r, List.length_cons, Nat.succ_mul]
    omega
theorem lx_start {p : Nat} {v : List Int} {l : Int} (hbo : ∀ b ∈ bo, okL c m b 0) (hm : bo.length = m) (hc : c ≤ 3) (hm3 : m ≤ 3) (hp : p < m) (hv : v.length = c) (hbl : bits.length ≤ 20) : ∃ r, lx bits bo 640 (.proc p) (ls0 bo v l) = some r := by
  refine lx_some hbo hm hc 640 (.proc p) 0 (ls0 bo v l) hp (by rw [← hm]; exact ls0_ok hv) ?_
  show 2 + 10 * mB bits.length (bo.map fun _ => []) ≤ 640
  rw [mB_ini, hm]
  have : m * (bits.length + 1) ≤ 3 * 21 := Nat.mul_le_mul hm3 (by omega)
  omega
end
/-! ### the law's execution and the machine: the same -/
abbrev SvL := List (List (Nat × Int))
def bstS (v0 : List Int) (st : List Stp) : BSt := st.foldl stepB (v0, [])
theorem bst_app (v0 : List Int) (a b : List Stp) : bstS v0 (a ++ b) = b.foldl stepB (bstS v0 a) := by rw [bstS, bstS, List.foldl_append]
section
variable {c m : Nat} {bits : List Nat} {bo : List (List Stm)} {v0 : List Int}
/-- k advances -/
def rn (c : Nat) (bits : List Nat) (bo : List (List Stm)) : Nat → Cf → Except Int Cf
  | 0, s => .ok s
  | k + 1, s => match advC c bits bo s with
    | .error e => .error e
    | .ok s' => rn c bits bo k s'
def rnE (c : Nat) (bits : List Nat) (bo : List (List Stm)) (k : Nat) : Except Int Cf → Except Int Cf
  | .error e => .error e
  | .ok s => rn c bits bo k s
theorem rn_add : ∀ (j k : Nat) (s : Cf), rn c bits bo (j + k) s = rnE c bits bo k (rn c bits bo j s)
  | 0, k, s => by rw [Nat.zero_add]; rfl
  | j + 1, k, s => by
    rw [Nat.succ_add, rn, rn]
    cases advC c bits bo s with
    | error e => rfl
    | ok s' => exact rn_add j k s'
theorem rnE_add (j k : Nat) : ∀ x : Except Int Cf, rnE c bits bo (j + k) x = rnE c bits bo k (rnE c bits bo j x)
  | .error e => rfl
  | .ok s => rn_add j k s
theorem rn_one {s : Cf} {x : Except Int Cf} (h : advC c bits bo s = x) : rnE c bits bo 1 (.ok s) = x := by
  show rn c bits bo 1 s = x
  rw [rn, h]
  cases x <;> rfl
structure SimC (v0 : List Int) (mc : Cf) (s : Ls) (sv : SvL) (fs : List Fr) : Prop where
  tk : mc.taken = s.taken
  bg : mc.begun = s.begun
  ln : mc.len = s.len
  fr : mc.frs = fs
  st : bstS v0 mc.steps = (vecL 1 s.stand s.load, sv)
structure SimE (v0 : List Int) (mc : Cf) (st : List Stp) (s : Ls) (sv : SvL) : Prop where
  tk : mc.taken = s.taken
  bg : mc.begun = s.begun
  ln : mc.len = s.len
  st : bstS v0 st = (vecL 1 s.stand s.load, sv)
def Bnd (k : Nat) (s s' : Ls) (e : Nat) : Prop := k + 3 * s.cnt + s.taken ≤ 3 * s'.cnt + s'.taken + e
structure OutF (c : Nat) (bits : List Nat) (bo : List (List Stm)) (v0 : List Int) (x : Except Int Cf) (w : Option Nat) (s s' : Ls) (fs : List Fr) (sv : SvL) (e : Nat) : Prop where
  er : ∀ i, s'.err = some (.no i) → ∃ k, rnE c bits bo k x = .error i ∧ Bnd k s s' (e + 1)
  no : s'.err = none → w = none → ∃ k mc', rnE c bits bo k x = .ok mc' ∧ SimC v0 mc' s' sv fs ∧ Bnd k s s' e
  wy : s'.err = none → ∀ way, w = some way → ∃ k mc1 st1, rnE c bits bo k x = .ok (endL way mc1 fs st1) ∧ SimE v0 mc1 st1 s' sv ∧ Bnd k s s' e
structure OutP (c : Nat) (bits : List Nat) (bo : List (List Stm)) (v0 : List Int) (x : Except Int Cf) (w : Option Nat) (s s' : Ls) (p : Nat) (nx : Option (List Stm × List Stm)) (r : List Fr) (sv : SvL) : Prop where
  er : ∀ i, s'.err = some (.no i) → ∃ k, rnE c bits bo k x = .error i ∧ Bnd k s s' 2
  wy : s'.err = none → ∃ way, w = some way ∧ ∃ k mc1 st1 blk pos, rnE c bits bo k x = .ok (endL way mc1 (⟨.body, blk, pos, p, nx⟩ :: r) st1) ∧ mc1.taken = s'.taken ∧ mc1.len = s'.len ∧ mc1.begun.set p (mc1.begun.getD p []).dropLast = s'.begun ∧ bstS v0 st1 = (vecL 1 s'.stand s'.load, sv) ∧ Bnd k s s' 1
variable {mc mc1 : Cf} {s s' s1 : Ls} {sv : SvL} {f : Fr} {r fs : List Fr} {w : Option Nat} {x : Except Int Cf} {e e1 e2 k1 : Nat}
theorem OutF.seq (h1 : rnE c bits bo k1 x = .ok mc1) (hb : Bnd k1 s s1 e1) (h2 : OutF c bits bo v0 (.ok mc1) w s1 s' fs sv e2) : OutF c bits bo v0 x w s s' fs sv (e1 + e2) := by
  have go : ∀ k, rnE c bits bo (k1 + k) x = rnE c bits bo k (.ok mc1) := fun k => by rw [rnE_add, h1]
  refine ⟨fun i hi => ?_, fun he hw => ?_, fun he way hw => ?_⟩
  · obtain ⟨k, hk, b⟩ := h2.er i hi
    exact ⟨k1 + k, by rw [go, hk], by unfold Bnd at *; omega⟩
  · obtain ⟨k, mc', hk, hs, b⟩ := h2.no he hw
    exact ⟨k1 + k, mc', by rw [go, hk], hs, by unfold Bnd at *; omega⟩
  · obtain ⟨k, mc', st, hk, hs, b⟩ := h2.wy he way hw
    exact ⟨k1 + k, mc', st, by rw [go, hk], hs, by unfold Bnd at *; omega⟩
theorem OutF.seqE {y : Except Int Cf} (h1 : ∀ k, rnE c bits bo (k1 + k) x = rnE c bits bo k y) (hb : Bnd k1 s s1 e1) (h2 : OutF c bits bo v0 y w s1 s' fs sv e2) (he : e1 + e2 ≤ e) : OutF c bits bo v0 x w s s' fs sv e := by
  refine ⟨fun i hi => ?_, fun her hw => ?_, fun her way hw => ?_⟩
  · obtain ⟨k, hk, b⟩ := h2.er i hi
    exact ⟨k1 + k, by rw [h1, hk], by unfold Bnd at *; omega⟩
  · obtain ⟨k, mc', hk, hs, b⟩ := h2.no her hw
    exact ⟨k1 + k, mc', by rw [h1, hk], hs, by unfold Bnd at *; omega⟩
  · obtain ⟨k, mc', st, hk, hs, b⟩ := h2.wy her way hw
    exact ⟨k1 + k, mc', st, by rw [h1, hk], hs, by unfold Bnd at *; omega⟩
theorem OutF.long (h : s'.err = some .long) : OutF c bits bo v0 x w s s' fs sv e := ⟨fun i hi => (nomatch h.symm.trans hi), fun z => (nomatch h.symm.trans z), fun z => (nomatch h.symm.trans z)⟩
/-- an error at once, behind k steps -/
theorem OutF.err {i : Int} {k : Nat} (h : s'.err = some (.no i)) (hr : rnE c bits bo k x = .error i) (hb : Bnd k s s' (e + 1)) : OutF c bits bo v0 x w s s' fs sv e :=
  ⟨fun j hj => (by have := h.symm.trans hj; cases this; exact ⟨k, hr, hb⟩), fun z => (nomatch h.symm.trans z), fun z => (nomatch h.symm.trans z)⟩
/-- what is told of an error alone -/
theorem OutF.only {w2 : Option Nat} {fs2 : List Fr} {sv2 : SvL} (h : OutF c bits bo v0 x w s s' fs sv e) (hn : s'.err ≠ none) : OutF c bits bo v0 x w2 s s' fs2 sv2 e := ⟨h.er, fun z => absurd z hn, fun z => absurd z hn⟩
/-! #### vectors -/
theorem vec_set {v : List Int} {l y : Int} {k : Nat} (h : k < v.length) : (vecL 1 v l).set (k + 1) y = vecL 1 (v.set k y) l := by
  show (1 : Int) :: (v ++ [l]).set k y = 1 :: (v.set k y ++ [l])
  rw [List.set_append_left _ _ h]
theorem vec_last {v : List Int} {l y : Int} (h : v.length = c) : (vecL 1 v l).set (c + 1) y = vecL 1 v y := by
  show (1 : Int) :: (v ++ [l]).set c y = 1 :: (v ++ [y])
  rw [List.set_append_right _ _ (by omega), h, Nat.sub_self]; rfl
theorem vec_get {v : List Int} {l : Int} {k : Nat} (h : k < v.length) : (vecL 1 v l).getD (k + 1) 0 = v.getD k 0 := by
  show ((1 : Int) :: (v ++ [l])).getD (k + 1) 0 = _
  rw [List.getD_cons_succ, List.getD_eq_getElem?_getD, List.getElem?_append_left h, List.getD_eq_getElem?_getD]
theorem vec_getl {v : List Int} {l : Int} (h : v.length = c) : (vecL 1 v l).getD (c + 1) 0 = l := by
  show ((1 : Int) :: (v ++ [l])).getD (c + 1) 0 = _
  rw [List.getD_cons_succ, List.getD_eq_getElem?_getD, List.getElem?_append_right (by omega), h, Nat.sub_self]; rfl
/-- the kept cells and the integer put back -/
theorem puts_keep {old : List Int} {lo l : Int} (ho : old.length = c) : ∀ (cs : List Nat) (v : List Int), (∀ k ∈ cs, k < c) → v.length = c → putsB ((cs.map (· + 1) ++ [c + 1]).map fun p => (p, (vecL 1 old lo).getD p 0)) (vecL 1 v l) = vecL 1 (putL cs old v) lo
  | [], v, _, hv => by
    show (vecL 1 v l).set (c + 1) ((vecL 1 old lo).getD (c + 1) 0) = _
    rw [vec_getl ho, vec_last hv]; rfl
  | k :: r, v, hk, hv => by
    have hkc := hk k (List.mem_cons_self ..)
    show putsB ((r.map (· + 1) ++ [c + 1]).map fun p => (p, (vecL 1 old lo).getD p 0)) ((vecL 1 v l).set (k + 1) ((vecL 1 old lo).getD (k + 1) 0)) = _
    rw [vec_get (by omega), vec_set (by omega)]
    exact puts_keep ho r (v.set k (old.getD k 0)) (fun j hj => hk j (List.mem_cons_of_mem _ hj)) (by rw [List.length_set]; exact hv)
/-! #### the parts -/
def GoalT (c : Nat) (bits : List Nat) (bo : List (List Stm)) (v0 : List Int) (s : Ls) (w : Option Nat) (s' : Ls) : Tk → Prop
  | .blk b => ∀ (mc : Cf) (f : Fr) (r : List Fr) (sv : SvL), f.blk.drop f.pos = b → f.pos ≤ f.blk.length → SimC v0 mc s sv (f :: r) → OutF c bits bo v0 (.ok mc) w s s' ({ f with pos := f.blk.length } :: r) sv 0
  | .one x => ∀ (mc : Cf) (f : Fr) (r : List Fr) (sv : SvL), f.blk[f.pos]? = some x → SimC v0 mc s sv (f :: r) → OutF c bits bo v0 (.ok mc) w s s' ({ f with pos := f.pos + 1 } :: r) sv 0
  | .keep cs b => ∀ (mc : Cf) (f : Fr) (r : List Fr) (sv : SvL), SimC v0 mc s sv (f :: r) → OutF c bits bo v0 (.ok (opnC { mc with steps := mc.steps ++ [.save (cs.map (· + 1) ++ [c + 1])] } ⟨.keep, b, 0, 0, none⟩)) w s s' (f :: r) sv 1
  | .again b => ∀ (mc : Cf) (f : Fr) (r : List Fr) (sv : SvL), SimC v0 mc s sv (f :: r) → OutF c bits bo v0 (.ok (opnC mc ⟨.again, b, b.length, 0, none⟩)) w s s' (f :: r) sv 0
  | .call p rw a b => ∀ (mc : Cf) (f : Fr) (r : List Fr) (sv : SvL), SimC v0 mc s sv (f :: r) → OutF c bits bo v0 (bgnC bo { mc with steps := mc.steps ++ [.save [c + 1], .put (c + 1) rw] } p (some (a, b))) w s s' (f :: r) sv 2
  | .proc p => ∀ (mc : Cf) (nx : Option (List Stm × List Stm)) (r : List Fr) (sv : SvL), SimC v0 mc s sv r → OutP c bits bo v0 (bgnC bo mc p nx) w s s' p nx r sv
theorem lxL_err {g : Stm → Ls → LR} : ∀ {b : List Stm} {s : Ls} {w : Option Nat} {s' : Ls}, s.err.isSome = true → lxL g b s = some (w, s') → w = none ∧ s' = s
  | [], s, w, s', _, e => by rw [lxL] at e; cases e; exact ⟨rfl, rfl⟩
  | x :: r, s, w, s', h, e => by rw [lxL, if_pos h] at e; cases e; exact ⟨rfl, rfl⟩
theorem lx_blk_err {d : Nat} {b : List Stm} (h : s.err.isSome = true) (e : lx bits bo d (.blk b) s = some (w, s')) : w = none ∧ s' = s := by
  cases d with
  | zero => rw [lx] at e; cases e
  | succ d => rw [lx] at e; exact lxL_err h e
theorem err_no (h : ¬s.err = none) : s.err.isSome = true := by
  cases hs : s.err with
  | none => exact absurd hs h
  | some _ => rfl
theorem not_some (h : s.err = none) : ¬s.err.isSome = true := by rw [h]; exact Bool.false_ne_true
theorem adv_next {y : Stm} (h : mc.frs = f :: r) (hy : f.blk[f.pos]? = some y) : advC c bits bo mc = excC c bits bo { mc with frs := { f with pos := f.pos + 1 } :: r } y := by
  have hp : f.pos < f.blk.length := (List.getElem?_eq_some_iff.mp hy).1
  rw [advC, h]
  dsimp only
  rw [if_neg (by omega), hy]
theorem adv_leave (h : mc.frs = f :: r) (hp : f.pos = f.blk.length) : advC c bits bo mc = lveC bits mc f r := by
  rw [advC, h]
  dsimp only
  rw [if_pos hp]
theorem simL {g : Stm → Ls → LR} {lv : Nat} (hk : ∀ x s w s', okS c m x lv → LOk c bits m s → g x s = some (w, s') → LKeep c bits m s s') (hg : ∀ x s w s', okS c m x lv → LOk c bits m s → s.err = none → g x s = some (w, s') → GoalT c bits bo v0 s w s' (.one x)) :
    ∀ (b : List Stm) (s : Ls) (w : Option Nat) (s' : Ls), okL c m b lv → LOk c bits m s → s.err = none → lxL g b s = some (w, s') → GoalT c bits bo v0 s w s' (.blk b)
  | [], s, w, s', _, _, he, e => by
    rw [lxL] at e
    cases e
    intro mc f r sv hd hp hs
    have hpl : f.pos = f.blk.length := by
      have := congrArg List.length hd
      rw [List.length_drop, List.length_nil] at this
      omega
    refine ⟨fun i hi => (nomatch he.symm.trans hi), fun _ _ => ⟨0, mc, rfl, ?_, by unfold Bnd; omega⟩, fun _ way z => (nomatch z)⟩
    rw [← hpl]
    exact hs
  | x :: t, s, w, s', hb, ho, he, e => by
    rw [okL] at hb
    rw [lxL, if_neg (not_some he)] at e
    intro mc f r sv hd hp hs
    have hlt : f.pos < f.blk.length := by
      cases Nat.lt_or_ge f.pos f.blk.length with
      | inl h => exact h
      | inr h => rw [List.drop_of_length_le h] at hd; cases hd
    rw [List.drop_eq_getElem_cons hlt] at hd
    obtain ⟨h1, h2⟩ := List.cons_eq_cons.mp hd
    have hx : f.blk[f.pos]? = some x := by rw [List.getElem?_eq_getElem hlt, h1]
    cases hf : g x s with
    | none => rw [hf] at e; cases e
    | some res =>
      obtain ⟨w1, s1⟩ := res
      rw [hf] at e
      have G := hg x s w1 s1 hb.1 ho he hf mc f r sv hx hs
      have k1 := hk x s w1 s1 hb.1 ho hf
      cases w1 with
      | some way =>
        cases e
        exact ⟨G.er, fun _ z => (nomatch z), fun hn way hw => G.wy hn way hw⟩
      | none =>
        dsimp only at e
        by_cases hn : s1.err = none
        · obtain ⟨k, mc', hk', hs', hb'⟩ := G.no hn rfl
          have := simL hk hg t s1 w s' hb.2 k1.ok hn e mc' { f with pos := f.pos + 1 } r sv h2 hlt hs'
          exact OutF.seq hk' hb' this
        · obtain ⟨rfl, rfl⟩ := lxL_err (err_no hn) e
          exact G.only hn
end
/-! ### the law's execution and the machine: all parts -/
section
variable {c m : Nat} {bits : List Nat} {bo : List (List Stm)} {v0 : List Int}
variable {mc mc1 : Cf} {s s' s1 : Ls} {sv : SvL} {f : Fr} {r fs : List Fr} {w : Option Nat} {x : Except Int Cf} {e e1 e2 k1 : Nat}
theorem SimC.cnt {n : Nat} (h : SimC v0 mc s sv fs) : SimC v0 mc { s with cnt := n } sv fs := ⟨h.tk, h.bg, h.ln, h.fr, h.st⟩
theorem SimC.frs {fs2 : List Fr} (h : SimC v0 mc s sv fs) : SimC v0 { mc with frs := fs2 } s sv fs2 := ⟨h.tk, h.bg, h.ln, rfl, h.st⟩
theorem SimC.opn (g : Fr) (h : SimC v0 mc s sv fs) : SimC v0 (opnC mc g) s sv (g :: fs) := ⟨h.tk, h.bg, h.ln, by show g :: mc.frs = _; rw [h.fr], h.st⟩
/-- a bit, on both sides -/
theorem bit_sim (h : SimC v0 mc s sv fs) (ho : LOk c bits m s) : (s.taken = bits.length ∧ bitC bits mc = .error (bits.length : Int) ∧ bitL bits s = (0, { s with err := some (.no (bits.length : Int)) })) ∨
    (s.taken < bits.length ∧ bitC bits mc = .ok (bits.getD s.taken 0, { mc with taken := s.taken + 1 }) ∧ bitL bits s = (bits.getD s.taken 0, { s with taken := s.taken + 1 })) := by
  have := ho.tk
  rw [bitC, bitL, h.tk]
  rcases Nat.lt_or_ge s.taken bits.length with hl | hl
  · exact .inr ⟨hl, by rw [if_neg (by omega)], by rw [if_neg (by omega)]⟩
  · exact .inl ⟨by omega, by rw [if_pos (by omega)], by rw [if_pos hl]⟩
theorem SimC.taken {n : Nat} (h : SimC v0 mc s sv fs) : SimC v0 { mc with taken := n } { s with taken := n } sv fs := ⟨rfl, h.bg, h.ln, h.fr, h.st⟩
/-- an end leaves a block that is no body -/
theorem endL_skip {way : Nat} {mc : Cf} {f : Fr} {r : List Fr} {st : List Stp} (h : f.w ≠ .body) : endL way mc (f :: r) st = endL way mc r (clsS f st) := by rw [endL, if_neg h]
theorem simA {g : Ls → LR} {b : List Stm} (hb1 : ∀ x ∈ bits, x ≤ 1) (hk : ∀ s w s', LOk c bits m s → g s = some (w, s') → LKeep c bits m s s') (hg : ∀ s w s', LOk c bits m s → s.err = none → g s = some (w, s') → GoalT c bits bo v0 s w s' (.blk b)) :
    ∀ (n : Nat) (s : Ls) (w : Option Nat) (s' : Ls), bits.length + 1 ≤ n + s.taken → LOk c bits m s → s.err = none → lxA bits g n s = some (w, s') → ∀ (mc : Cf) (f : Fr) (r : List Fr) (sv : SvL), SimC v0 mc s sv (⟨.again, b, b.length, 0, none⟩ :: f :: r) → OutF c bits bo v0 (.ok mc) w s s' (f :: r) sv 0
  | 0, s, w, s', hn, ho, _, _, _, _, _, _, _ => absurd hn (by have := ho.tk; omega)
  | n + 1, s, w, s', hn, ho, he, e, mc, f, r, sv, hs => by
    have hl : advC c bits bo mc = lveA bits mc ⟨.again, b, b.length, 0, none⟩ (f :: r) := by
      rw [adv_leave hs.fr rfl, lveC, if_neg (by intro z; cases z), if_pos rfl]
    rw [lxA] at e
    rw [lveA] at hl
    rcases bit_sim hs ho with ⟨ht, hbC, hbL⟩ | ⟨ht, hbC, hbL⟩
    · rw [hbL] at e
      rw [hbC] at hl
      dsimp only at e hl
      rw [if_pos rfl] at e
      cases e
      exact OutF.err (k := 1) rfl (rn_one hl) (by unfold Bnd; dsimp only; omega)
    · rw [hbL] at e
      rw [hbC] at hl
      dsimp only at e hl
      have hle : bits.getD s.taken 0 ≤ 1 := hb1 _ (getD_lt_mem ht)
      by_cases hz : bits.getD s.taken 0 = 0
      · rw [if_pos hz] at e
        rw [if_neg (by omega)] at hl
        cases e
        refine ⟨fun i hi => (nomatch he.symm.trans hi), fun _ _ => ⟨1, _, rn_one hl, ?_, by unfold Bnd; dsimp only; omega⟩, fun _ way z => (nomatch z)⟩
        have h1 : clsC { mc with taken := s.taken + 1 } = { mc with taken := s.taken + 1, frs := f :: r } := by
          rw [clsC]
          show (match mc.frs with | [] => _ | f :: r => _) = _
          rw [hs.fr]
          rfl
        rw [h1]
        exact ⟨rfl, hs.bg, hs.ln, rfl, hs.st⟩
      · rw [if_neg hz] at e
        rw [if_pos (by omega)] at hl
        have k0 := bit_keep ho
        rw [hbL] at k0
        have ho1 : LOk c bits m { s with taken := s.taken + 1 } := k0.ok
        cases hf : g { s with taken := s.taken + 1 } with
        | none => rw [hf] at e; cases e
        | some res =>
          obtain ⟨w1, s1⟩ := res
          rw [hf] at e
          dsimp only at e
          have k1 := hk _ w1 s1 ho1 hf
          have hsn : SimC v0 { mc with taken := s.taken + 1, frs := ⟨.again, b, 0, 0, none⟩ :: f :: r } { s with taken := s.taken + 1 } sv (⟨.again, b, 0, 0, none⟩ :: f :: r) := ⟨rfl, hs.bg, hs.ln, rfl, hs.st⟩
          have G := hg _ w1 s1 ho1 he hf _ ⟨.again, b, 0, 0, none⟩ (f :: r) sv rfl (Nat.zero_le _) hsn
          have hgo : ∀ k, rnE c bits bo (1 + k) (.ok mc) = rnE c bits bo k (.ok { mc with taken := s.taken + 1, frs := ⟨.again, b, 0, 0, none⟩ :: f :: r }) := fun k => by rw [rnE_add, rn_one hl]
          have hb0 : Bnd 1 s { s with taken := s.taken + 1 } 0 := by unfold Bnd; dsimp only; omega
          by_cases hne : s1.err = none
          · cases w1 with
            | some way =>
              rw [if_pos (.inl rfl)] at e
              cases e
              refine OutF.seqE hgo hb0 (⟨G.er, fun _ z => (nomatch z), fun hn2 way2 hw => ?_⟩ : OutF c bits bo v0 _ (some way) _ _ (f :: r) sv 0) (Nat.le_refl _)
              obtain ⟨k, mc1, st1, hk1, hs1, hb1⟩ := G.wy hn2 way2 hw
              rw [endL_skip (by intro z; cases z)] at hk1
              exact ⟨k, mc1, st1, hk1, hs1, hb1⟩
            | none =>
              rw [if_neg (by rw [hne]; simp)] at e
              obtain ⟨k, mc', hk', hs', hb'⟩ := G.no hne rfl
              have tk1 : s.taken + 1 ≤ s1.taken := k1.tk
              have G2 := simA hb1 hk hg n s1 w s' (by omega) k1.ok hne e mc' f r sv hs'
              exact OutF.seqE hgo hb0 (OutF.seq hk' hb' G2) (Nat.le_refl _)
          · rw [if_pos (.inr (err_no hne))] at e
            cases e
            exact OutF.seqE hgo hb0 (G.only hne) (Nat.le_refl _)
theorem putL_nil {old new : List Int} : putL [] old new = new := rfl
theorem proc_none {d p : Nat} (h : lx bits bo d (.proc p) s = some (none, s')) : s'.err ≠ none := by
  cases d with
  | zero => rw [lx] at h; cases h
  | succ d =>
    rw [lx] at h
    split at h
    · cases h; exact fun z => (nomatch z)
    · split at h
      · cases h
      · split at h
        · rename_i hz
          cases h
          intro z
          rw [show _ = none from z] at hz
          cases hz
        · cases h
theorem proc_some {d p way : Nat} (h : lx bits bo d (.proc p) s = some (some way, s')) : s'.err = none := by
  cases d with
  | zero => rw [lx] at h; cases h
  | succ d =>
    rw [lx] at h
    split at h
    · cases h
    · split at h
      · cases h
      · rename_i w1 s1 h1
        split at h
        · cases h
        · rename_i hz
          cases h
          show s1.err = none
          cases hq : s1.err with
          | none => rfl
          | some y => rw [hq] at hz; exact absurd rfl hz
theorem sim_all (hbo : ∀ b ∈ bo, ∃ lv, okL c m b lv) (hm : bo.length = m) (hc : c ≤ 3) (hb1 : ∀ x ∈ bits, x ≤ 1) : ∀ (d : Nat) (t : Tk) (s : Ls) (w : Option Nat) (s' : Ls), TkOk c m t → LOk c bits m s → s.err = none → lx bits bo d t s = some (w, s') → GoalT c bits bo v0 s w s' t
  | 0, t, s, w, s', _, _, _, e => by rw [lx] at e; cases e
  | d + 1, .blk b, s, w, s', ⟨lv, hb⟩, ho, he, e => by
    rw [lx] at e
    exact simL (fun x s w s' hx h e => lx_keep hbo hm hc d (.one x) s w s' ⟨lv, hx⟩ h e) (fun x s w s' hx h he e => sim_all hbo hm hc hb1 d (.one x) s w s' ⟨lv, hx⟩ h he e) b s w s' hb ho he e
  | d + 1, .one x, s, w, s', ⟨lv, hx⟩, ho, he, e => by
    intro mc f r sv hfx hs
    rw [lx] at e
    by_cases h5 : 500 < s.cnt + 1
    · rw [if_pos h5] at e
      cases e
      exact .long rfl
    · rw [if_neg h5] at e
      have ha := adv_next (c := c) (bits := bits) (bo := bo) hs.fr hfx
      have hs1 : SimC v0 { mc with frs := { f with pos := f.pos + 1 } :: r } { s with cnt := s.cnt + 1 } sv ({ f with pos := f.pos + 1 } :: r) := hs.frs.cnt
      have ho1 : LOk c bits m { s with cnt := s.cnt + 1 } := ho.of rfl
      generalize hmc2 : ({ mc with frs := { f with pos := f.pos + 1 } :: r } : Cf) = mc2 at ha hs1
      generalize hf2 : ({ f with pos := f.pos + 1 } : Fr) = f2 at hs1 ⊢
      have hgo : ∀ k, rnE c bits bo (1 + k) (.ok mc) = rnE c bits bo k (excC c bits bo mc2 x) := fun k => by rw [rnE_add, rn_one ha]
      have hst : s.stand.length = c := ho.st
      have hB : Bnd 1 s { s with cnt := s.cnt + 1 } 0 := by unfold Bnd; dsimp only; omega
      have hB2 : ∀ {k : Nat} {s2 : Ls} {e : Nat}, Bnd k { s with cnt := s.cnt + 1 } s2 e → e ≤ 2 → Bnd (1 + k) s s2 0 := fun hb he => by unfold Bnd at *; dsimp only at hb; omega
      -- three for each statement
      have up : ∀ {y : Except Int Cf} {e : Nat}, e ≤ 2 → (∀ k, rnE c bits bo (1 + k) (.ok mc) = rnE c bits bo k y) → OutF c bits bo v0 y w { s with cnt := s.cnt + 1 } s' (f2 :: r) sv e → OutF c bits bo v0 (.ok mc) w s s' (f2 :: r) sv 0 := fun {y e} hle hg G => by
        refine ⟨fun i hi => ?_, fun her hw => ?_, fun her way hw => ?_⟩
        · obtain ⟨k, hk, b⟩ := G.er i hi
          exact ⟨1 + k, by rw [hg, hk], by unfold Bnd at *; dsimp only at b; omega⟩
        · obtain ⟨k, mc', hk, hs', b⟩ := G.no her hw
          exact ⟨1 + k, mc', by rw [hg, hk], hs', by unfold Bnd at *; dsimp only at b; omega⟩
        · obtain ⟨k, mc', st, hk, hs', b⟩ := G.wy her way hw
          exact ⟨1 + k, mc', st, by rw [hg, hk], hs', by unfold Bnd at *; dsimp only at b; omega⟩
      refine up (e := 2) (Nat.le_refl _) hgo ?_
      cases x with
      | set k0 r0 =>
        rw [okS] at hx
        rw [lx1] at e
        cases e
        rw [excC]
        refine ⟨fun i hi => (nomatch he.symm.trans hi), fun _ _ => ⟨0, _, rfl, ⟨hs1.tk, hs1.bg, by show mc2.len + 1 = s.len + 1; rw [hs1.ln], hs1.fr, ?_⟩, by unfold Bnd; dsimp only; omega⟩, fun _ way z => (nomatch z)⟩
        show bstS v0 (mc2.steps ++ [.put (k0 + 1) r0]) = _
        rw [bst_app, hs1.st]
        show ((vecL 1 s.stand s.load).set (k0 + 1) (dotR r0 (vecL 1 s.stand s.load)), sv) = _
        rw [tot_dot (c := c) hx.2.1 hst, vec_set (by omega)]
      | carry r0 =>
        rw [okS] at hx
        rw [lx1] at e
        cases e
        rw [excC]
        refine ⟨fun i hi => (nomatch he.symm.trans hi), fun _ _ => ⟨0, _, rfl, ⟨hs1.tk, hs1.bg, by show mc2.len + 1 = s.len + 1; rw [hs1.ln], hs1.fr, ?_⟩, by unfold Bnd; dsimp only; omega⟩, fun _ way z => (nomatch z)⟩
        show bstS v0 (mc2.steps ++ [.put (c + 1) r0]) = _
        rw [bst_app, hs1.st]
        show ((vecL 1 s.stand s.load).set (c + 1) (dotR r0 (vecL 1 s.stand s.load)), sv) = _
        rw [tot_dot (c := c) hx.1 hst, vec_last hst]
      | keep cs b =>
        rw [okS] at hx
        rw [lx1] at e
        rw [excC]
        have G := sim_all hbo hm hc hb1 d (.keep cs b) _ w s' ⟨hx.2.1.2, by have := asc_len hx.2.1; omega, _, hx.2.2.2⟩ ho1 he e mc2 f2 r sv hs1
        exact ⟨fun i hi => by obtain ⟨k, h1, h2⟩ := G.er i hi; exact ⟨k, h1, by unfold Bnd at *; omega⟩, fun h1 h2 => by obtain ⟨k, mc', h3, h4, h5⟩ := G.no h1 h2; exact ⟨k, mc', h3, h4, by unfold Bnd at *; omega⟩, fun h1 way h2 => by obtain ⟨k, mc', st, h3, h4, h5⟩ := G.wy h1 way h2; exact ⟨k, mc', st, h3, h4, by unfold Bnd at *; omega⟩⟩
      | either a b =>
        rw [okS] at hx
        rw [lx1] at e
        rw [excC]
        rcases bit_sim hs1 ho1 with ⟨ht, hbC, hbL⟩ | ⟨ht, hbC, hbL⟩
        · rw [hbL] at e
          rw [hbC]
          dsimp only at e ⊢
          obtain ⟨rfl, rfl⟩ := lx_blk_err rfl e
          exact OutF.err (k := 0) rfl rfl (by unfold Bnd; dsimp only; omega)
        · rw [hbL] at e
          rw [hbC]
          dsimp only at e ⊢
          have k0 := bit_keep ho1
          rw [hbL] at k0
          have ho2 : LOk c bits m { s with cnt := s.cnt + 1, taken := s.taken + 1 } := k0.ok
          have hblk : ∃ lv, okL c m (if bits.getD s.taken 0 = 0 then a else b) lv := by
            split
            · exact ⟨_, hx.2.2.1⟩
            · exact ⟨_, hx.2.2.2.2⟩
          have hs2 : SimC v0 (opnC { mc2 with taken := s.taken + 1 } ⟨.block, if bits.getD s.taken 0 = 0 then a else b, 0, 0, none⟩) { s with cnt := s.cnt + 1, taken := s.taken + 1 } sv (⟨.block, if bits.getD s.taken 0 = 0 then a else b, 0, 0, none⟩ :: f2 :: r) := SimC.opn _ ⟨rfl, hs1.bg, hs1.ln, hs1.fr, hs1.st⟩
          have G := sim_all hbo hm hc hb1 d (.blk (if bits.getD s.taken 0 = 0 then a else b)) _ w s' hblk ho2 he e _ ⟨.block, if bits.getD s.taken 0 = 0 then a else b, 0, 0, none⟩ (f2 :: r) sv rfl (Nat.zero_le _) hs2
          refine ⟨fun i hi => ?_, fun her hw => ?_, fun her way hw => ?_⟩
          · obtain ⟨k, h1, h2⟩ := G.er i hi
            exact ⟨k, h1, by unfold Bnd at *; dsimp only at *; omega⟩
          · obtain ⟨k, mc', h1, h2, h3⟩ := G.no her hw
            refine ⟨k + 1, clsC mc', ?_, ?_, by unfold Bnd at *; dsimp only at *; omega⟩
            · rw [rnE_add, h1]
              exact rn_one (by rw [adv_leave h2.fr rfl, lveC, if_neg (by intro z; cases z), if_neg (by intro z; cases z)])
            · have hcl : clsC mc' = { mc' with frs := f2 :: r } := by
                rw [clsC, h2.fr]; rfl
              rw [hcl]
              exact h2.frs
          · obtain ⟨k, mc', st, h1, h2, h3⟩ := G.wy her way hw
            rw [endL_skip (by intro z; cases z)] at h1
            exact ⟨k, mc', st, h1, h2, by unfold Bnd at *; dsimp only at *; omega⟩
      | again b =>
        rw [okS] at hx
        rw [lx1] at e
        rw [excC]
        have G := sim_all hbo hm hc hb1 d (.again b) _ w s' ⟨_, hx.2.2⟩ ho1 he e mc2 f2 r sv hs1
        exact ⟨fun i hi => by obtain ⟨k, h1, h2⟩ := G.er i hi; exact ⟨k, h1, by unfold Bnd at *; omega⟩, fun h1 h2 => by obtain ⟨k, mc', h3, h4, h5⟩ := G.no h1 h2; exact ⟨k, mc', h3, h4, by unfold Bnd at *; omega⟩, fun h1 way h2 => by obtain ⟨k, mc', st, h3, h4, h5⟩ := G.wy h1 way h2; exact ⟨k, mc', st, h3, h4, by unfold Bnd at *; omega⟩⟩
      | call p r0 a b =>
        rw [okS] at hx
        rw [lx1] at e
        rw [excC]
        exact sim_all hbo hm hc hb1 d (.call p r0 a b) _ w s' ⟨hx.2.1, hx.2.2.1, ⟨_, hx.2.2.2.2.1⟩, ⟨_, hx.2.2.2.2.2.2⟩⟩ ho1 he e mc2 f2 r sv hs1
      | fin w1 =>
        rw [lx1] at e
        cases e
        rw [excC]
        refine ⟨fun i hi => (nomatch he.symm.trans hi), fun _ z => (nomatch z), fun _ way hw => ⟨0, mc2, mc2.steps, ?_, ⟨hs1.tk, hs1.bg, hs1.ln, hs1.st⟩, by unfold Bnd; dsimp only; omega⟩⟩
        cases hw
        show Except.ok (endC w1 mc2) = _
        rw [endC, hs1.fr]
  | d + 1, .keep cs b, s, w, s', ⟨hcs, hcl, hb⟩, ho, he, e => by
    intro mc f r sv hs
    rw [lx] at e
    have hst : s.stand.length = c := ho.st
    cases hf : lx bits bo d (.blk b) s with
    | none => rw [hf] at e; cases e
    | some res =>
      obtain ⟨w1, s1⟩ := res
      rw [hf] at e
      cases e
      have k1 := lx_keep hbo hm hc d (.blk b) s w s1 hb ho hf
      have hs1 : SimC v0 (opnC { mc with steps := mc.steps ++ [.save (cs.map (· + 1) ++ [c + 1])] } ⟨.keep, b, 0, 0, none⟩) s (((cs.map (· + 1) ++ [c + 1]).map fun p => (p, (vecL 1 s.stand s.load).getD p 0)) :: sv) (⟨.keep, b, 0, 0, none⟩ :: f :: r) := by
        refine SimC.opn _ ⟨hs.tk, hs.bg, hs.ln, hs.fr, ?_⟩
        show bstS v0 (mc.steps ++ [.save (cs.map (· + 1) ++ [c + 1])]) = _
        rw [bst_app, hs.st]; rfl
      have G := sim_all hbo hm hc hb1 d (.blk b) s w s1 hb ho he hf _ ⟨.keep, b, 0, 0, none⟩ (f :: r) _ rfl (Nat.zero_le _) hs1
      have back : ∀ {st : List Stp}, bstS v0 st = (vecL 1 s1.stand s1.load, ((cs.map (· + 1) ++ [c + 1]).map fun p => (p, (vecL 1 s.stand s.load).getD p 0)) :: sv) → bstS v0 (st ++ [.back]) = (vecL 1 (putL cs s.stand s1.stand) s.load, sv) := fun {st} h => by
        rw [bst_app, h]
        show (putsB _ (vecL 1 s1.stand s1.load), sv) = _
        rw [puts_keep hst cs s1.stand hcs k1.ok.st]
      refine ⟨fun i hi => ?_, fun her hw => ?_, fun her way hw => ?_⟩
      · obtain ⟨k, h1, h2⟩ := G.er i hi
        exact ⟨k, h1, by unfold Bnd at *; dsimp only at *; omega⟩
      · obtain ⟨k, mc', h1, h2, h3⟩ := G.no her hw
        refine ⟨k + 1, clsC mc', ?_, ?_, by unfold Bnd at *; dsimp only at *; omega⟩
        · rw [rnE_add, h1]
          exact rn_one (by rw [adv_leave h2.fr rfl, lveC, if_neg (by intro z; cases z), if_neg (by intro z; cases z)])
        · have hcl : clsC mc' = { mc' with frs := f :: r, steps := mc'.steps ++ [.back] } := by
            rw [clsC, h2.fr]; rfl
          rw [hcl]
          exact ⟨h2.tk, h2.bg, h2.ln, rfl, back h2.st⟩
      · obtain ⟨k, mc', st, h1, h2, h3⟩ := G.wy her way hw
        rw [endL_skip (by intro z; cases z)] at h1
        exact ⟨k, mc', st ++ [.back], h1, ⟨h2.tk, h2.bg, h2.ln, back h2.st⟩, by unfold Bnd at *; dsimp only at *; omega⟩
  | d + 1, .again b, s, w, s', hb, ho, he, e => by
    intro mc f r sv hs
    rw [lx] at e
    exact simA hb1 (fun s w s' h e => lx_keep hbo hm hc d (.blk b) s w s' hb h e) (fun s w s' h he e => sim_all hbo hm hc hb1 d (.blk b) s w s' hb h he e) (bits.length + 1) s w s' (by omega) ho he e _ f r sv (hs.opn _)
  | d + 1, .call p r0 a b, s, w, s', ⟨hp, hr0, ha, hb⟩, ho, he, e => by
    intro mc f r sv hs
    rw [lx] at e
    have hst : s.stand.length = c := ho.st
    have ho1 : LOk c bits m { s with load := totL r0 s.stand s.load } := ho.of rfl
    have hs1 : SimC v0 { mc with steps := mc.steps ++ [.save [c + 1], .put (c + 1) r0] } { s with load := totL r0 s.stand s.load } ([(c + 1, s.load)] :: sv) (f :: r) := by
      refine ⟨hs.tk, hs.bg, hs.ln, hs.fr, ?_⟩
      show bstS v0 (mc.steps ++ [.save [c + 1], .put (c + 1) r0]) = _
      rw [bst_app, hs.st]
      show ((vecL 1 s.stand s.load).set (c + 1) (dotR r0 (vecL 1 s.stand s.load)), [(c + 1, (vecL 1 s.stand s.load).getD (c + 1) 0)] :: sv) = _
      rw [tot_dot (c := c) hr0.1 hst, vec_last hst, vec_getl hst]
    cases hf : lx bits bo d (.proc p) { s with load := totL r0 s.stand s.load } with
    | none => rw [hf] at e; cases e
    | some res =>
      obtain ⟨w1, s1⟩ := res
      rw [hf] at e
      have k1 := lx_keep hbo hm hc d (.proc p) _ w1 s1 hp ho1 hf
      have G := sim_all hbo hm hc hb1 d (.proc p) _ w1 s1 hp ho1 he hf _ (some (a, b)) (f :: r) _ hs1
      cases w1 with
      | none =>
        cases e
        have hne := proc_none hf
        exact ⟨fun i hi => by obtain ⟨k, h1, h2⟩ := G.er i hi; exact ⟨k, h1, by unfold Bnd at *; dsimp only at *; omega⟩, fun z => absurd z hne, fun z => absurd z hne⟩
      | some way0 =>
        dsimp only at e
        have hn1 := proc_some hf
        obtain ⟨way, hw, k, mc1, st1, blk, pos, h1, h2, h3, h4, h5, h6⟩ := G.wy hn1
        cases hw
        have hend : endL way0 mc1 (⟨.body, blk, pos, p, some (a, b)⟩ :: f :: r) st1 = { mc1 with frs := ⟨.block, if way0 = 0 then a else b, 0, 0, none⟩ :: f :: r, steps := st1 ++ [.back], begun := mc1.begun.set p (mc1.begun.getD p []).dropLast } := by
          rw [endL, if_pos rfl, if_neg (by simp)]; rfl
        rw [hend] at h1
        have hs2 : SimC v0 { mc1 with frs := ⟨.block, if way0 = 0 then a else b, 0, 0, none⟩ :: f :: r, steps := st1 ++ [.back], begun := mc1.begun.set p (mc1.begun.getD p []).dropLast } { s1 with load := s.load } sv (⟨.block, if way0 = 0 then a else b, 0, 0, none⟩ :: f :: r) := by
          refine ⟨h2, h4, h3, rfl, ?_⟩
          show bstS v0 (st1 ++ [.back]) = _
          rw [bst_app, h5]
          show (putsB [(c + 1, s.load)] (vecL 1 s1.stand s1.load), sv) = _
          show ((vecL 1 s1.stand s1.load).set (c + 1) s.load, sv) = _
          rw [vec_last k1.ok.st]
        have hblk : ∃ lv, okL c m (if way0 = 0 then a else b) lv := by
          split
          · exact ha
          · exact hb
        have ho2 : LOk c bits m { s1 with load := s.load } := k1.ok.of rfl
        have G2 := sim_all hbo hm hc hb1 d (.blk (if way0 = 0 then a else b)) _ w s' hblk ho2 hn1 e _ ⟨.block, if way0 = 0 then a else b, 0, 0, none⟩ (f :: r) sv rfl (Nat.zero_le _) hs2
        have hb6 : Bnd k s { s1 with load := s.load } 1 := by unfold Bnd at *; dsimp only at *; omega
        have G3 := OutF.seq h1 hb6 G2
        refine ⟨fun i hi => ?_, fun her hw => ?_, fun her way hw => ?_⟩
        · obtain ⟨k, h1, h2⟩ := G3.er i hi
          exact ⟨k, h1, by unfold Bnd at *; dsimp only at *; omega⟩
        · obtain ⟨k, mc', h1, h2, h3⟩ := G3.no her hw
          refine ⟨k + 1, clsC mc', ?_, ?_, by unfold Bnd at *; dsimp only at *; omega⟩
          · rw [rnE_add, h1]
            exact rn_one (by rw [adv_leave h2.fr rfl, lveC, if_neg (by intro z; cases z), if_neg (by intro z; cases z)])
          · have hcl : clsC mc' = { mc' with frs := f :: r } := by
              rw [clsC, h2.fr]; rfl
            rw [hcl]
            exact h2.frs
        · obtain ⟨k, mc', st, h1, h2, h3⟩ := G3.wy her way hw
          rw [endL_skip (by intro z; cases z)] at h1
          exact ⟨k, mc', st, h1, h2, by unfold Bnd at *; dsimp only at *; omega⟩
  | d + 1, .proc p, s, w, s', hp, ho, he, e => by
    intro mc nx r sv hs
    rw [lx] at e
    have hp : p < m := hp
    rw [bgnC, hs.bg, hs.tk]
    by_cases hz : (s.begun.getD p []).getLast? = some s.taken
    · rw [if_pos hz] at e ⊢
      cases e
      refine ⟨fun i hi => ?_, fun z => (nomatch z)⟩
      cases hi
      exact ⟨0, rfl, by unfold Bnd; dsimp only; omega⟩
    · rw [if_neg hz] at e ⊢
      have hbp : ∃ lv, okL c m (bo.getD p []) lv := by
        rw [List.getD_eq_getElem?_getD, List.getElem?_eq_getElem (by omega)]
        exact hbo _ (List.getElem_mem _)
      have h0 : LOk c bits m { s with begun := s.begun.set p (s.begun.getD p [] ++ [s.taken]) } := proc_ok0 ho hp hz
      have hs1 : SimC v0 (opnC { mc with taken := s.taken, begun := s.begun.set p (s.begun.getD p [] ++ [s.taken]) } ⟨.body, bo.getD p [], 0, p, nx⟩) { s with begun := s.begun.set p (s.begun.getD p [] ++ [s.taken]) } sv (⟨.body, bo.getD p [], 0, p, nx⟩ :: r) := SimC.opn _ ⟨rfl, rfl, hs.ln, hs.fr, hs.st⟩
      cases hf : lx bits bo d (.blk (bo.getD p [])) { s with begun := s.begun.set p (s.begun.getD p [] ++ [s.taken]) } with
      | none => rw [hf] at e; cases e
      | some res =>
        obtain ⟨w1, s1⟩ := res
        rw [hf] at e
        dsimp only at e
        have k1 := lx_keep hbo hm hc d (.blk _) _ w1 s1 hbp h0 hf
        have G := sim_all hbo hm hc hb1 d (.blk _) _ w1 s1 hbp h0 he hf _ ⟨.body, bo.getD p [], 0, p, nx⟩ r sv rfl (Nat.zero_le _) hs1
        by_cases hn : s1.err = none
        · rw [if_neg (not_some hn)] at e
          cases e
          refine ⟨fun i hi => (nomatch hn.symm.trans hi), fun _ => ⟨_, rfl, ?_⟩⟩
          cases w1 with
          | some way =>
            obtain ⟨k, mc1, st1, h1, h2, h3⟩ := G.wy hn way rfl
            refine ⟨k, mc1, st1, bo.getD p [], (bo.getD p []).length, h1, h2.tk, h2.ln, ?_, h2.st, by unfold Bnd at *; dsimp only at *; omega⟩
            rw [h2.bg]
          | none =>
            obtain ⟨k, mc', h1, h2, h3⟩ := G.no hn rfl
            refine ⟨k + 1, mc', mc'.steps, bo.getD p [], (bo.getD p []).length, ?_, h2.tk, h2.ln, ?_, h2.st, by unfold Bnd at *; dsimp only at *; omega⟩
            · rw [rnE_add, h1]
              refine rn_one ?_
              rw [adv_leave h2.fr rfl, lveC, if_pos rfl, endC, h2.fr]; rfl
            · rw [h2.bg]
        · rw [if_pos (err_no hn)] at e
          cases e
          refine ⟨fun i hi => ?_, fun z => absurd z hn⟩
          obtain ⟨k, h1, h2⟩ := G.er i hi
          exact ⟨k, h1, by unfold Bnd at *; dsimp only at *; omega⟩
end
/-! ### what the law's execution tells of a run -/
section
variable {c m : Nat} {bits : List Nat} {bo : List (List Stm)} {v0 : List Int}
def CntOk (s' : Ls) : Prop := s'.err = some .long ∨ s'.cnt ≤ 500
theorem lxL_cnt {g : Stm → Ls → LR} (hg : ∀ x s w s', s.err = none → s.cnt ≤ 500 → g x s = some (w, s') → CntOk s') : ∀ (b : List Stm) (s : Ls) (w : Option Nat) (s' : Ls), s.cnt ≤ 500 → lxL g b s = some (w, s') → CntOk s'
  | [], s, w, s', h, e => by rw [lxL] at e; cases e; exact .inr h
  | x :: r, s, w, s', h, e => by
    rw [lxL] at e
    split at e
    · cases e; exact .inr h
    · rename_i hz
      have hn : s.err = none := by
        cases hs : s.err with
        | none => rfl
        | some _ => rw [hs] at hz; exact absurd rfl hz
      split at e
      · cases e
      · rename_i w1 s1 h1
        cases e
        exact hg x s _ _ hn h h1
      · rename_i s1 h1
        rcases hg x s _ s1 hn h h1 with hl | hl
        · obtain ⟨_, rfl⟩ := lxL_err (by rw [hl]; rfl) e
          exact .inl hl
        · exact lxL_cnt hg r s1 w s' hl e
theorem bitL_cnt (s : Ls) : (bitL bits s).2.cnt = s.cnt := by rw [bitL]; split <;> rfl
theorem bitL_err {s : Ls} (h : s.err = none) (hz : (bitL bits s).1 ≠ 0) : (bitL bits s).2.err = none := by
  rw [bitL] at hz ⊢
  split
  · rename_i hl
    rw [if_pos hl] at hz
    exact absurd rfl hz
  · exact h
theorem lxA_cnt {g : Ls → LR} (hg : ∀ s w s', s.err = none → s.cnt ≤ 500 → g s = some (w, s') → CntOk s') : ∀ (n : Nat) (s : Ls) (w : Option Nat) (s' : Ls), s.err = none → s.cnt ≤ 500 → lxA bits g n s = some (w, s') → CntOk s'
  | 0, s, w, s', _, h, e => by rw [lxA] at e; cases e; exact .inr h
  | n + 1, s, w, s', hn, h, e => by
    rw [lxA] at e
    split at e
    · cases e
      exact .inr (by rw [bitL_cnt]; exact h)
    · rename_i hz
      split at e
      · cases e
      · rename_i w1 s1 h1
        have k := hg _ w1 s1 (bitL_err hn hz) (by rw [bitL_cnt]; exact h) h1
        split at e
        · cases e; exact k
        · rename_i hz2
          have hn1 : s1.err = none := by
            cases hs : s1.err with
            | none => rfl
            | some _ => exact absurd (.inr (by rw [hs]; rfl)) hz2
          rcases k with k | k
          · rw [hn1] at k; cases k
          · exact lxA_cnt hg n s1 w s' hn1 k e
theorem lx_cnt : ∀ (d : Nat) (t : Tk) (s : Ls) (w : Option Nat) (s' : Ls), s.err = none → s.cnt ≤ 500 → lx bits bo d t s = some (w, s') → CntOk s'
  | 0, t, s, w, s', _, _, e => by rw [lx] at e; cases e
  | d + 1, .blk b, s, w, s', _, h, e => by
    rw [lx] at e
    exact lxL_cnt (fun x s w s' hn h e => lx_cnt d (.one x) s w s' hn h e) b s w s' h e
  | d + 1, .one x, s, w, s', hn, h, e => by
    rw [lx] at e
    split at e
    · cases e; exact .inl rfl
    · rename_i hz
      have h1 : ({ s with cnt := s.cnt + 1 } : Ls).cnt ≤ 500 := by show s.cnt + 1 ≤ 500; omega
      cases x with
      | set k r => cases e; exact .inr h1
      | carry r => cases e; exact .inr h1
      | keep cs b => exact lx_cnt d (.keep cs b) { s with cnt := s.cnt + 1 } w s' hn h1 e
      | either a b =>
        rw [lx1] at e
        by_cases hb : (bitL bits { s with cnt := s.cnt + 1 }).2.err = none
        · exact lx_cnt d _ (bitL bits { s with cnt := s.cnt + 1 }).2 w s' hb (by rw [bitL_cnt]; exact h1) e
        · obtain ⟨_, rfl⟩ := lx_blk_err (err_no hb) e
          exact .inr (by rw [bitL_cnt]; exact h1)
      | again b => exact lx_cnt d (.again b) { s with cnt := s.cnt + 1 } w s' hn h1 e
      | call p r a b => exact lx_cnt d (.call p r a b) { s with cnt := s.cnt + 1 } w s' hn h1 e
      | fin w1 => cases e; exact .inr h1
  | d + 1, .keep cs b, s, w, s', hn, h, e => by
    rw [lx] at e
    split at e
    · cases e
    · rename_i w1 s1 h1
      cases e
      exact lx_cnt d (.blk b) s w s1 hn h h1
  | d + 1, .again b, s, w, s', hn, h, e => by
    rw [lx] at e
    exact lxA_cnt (fun s w s' hn h e => lx_cnt d (.blk b) s w s' hn h e) _ s w s' hn h e
  | d + 1, .call p r a b, s, w, s', hn, h, e => by
    rw [lx] at e
    split at e
    · cases e
    · rename_i s1 h1
      cases e
      exact lx_cnt d (.proc p) { s with load := totL r s.stand s.load } _ s1 hn h h1
    · rename_i w1 s1 h1
      have k := lx_cnt d (.proc p) { s with load := totL r s.stand s.load } _ s1 hn h h1
      have hn1 := proc_some h1
      rcases k with k | k
      · rw [hn1] at k; cases k
      · exact lx_cnt d _ { s1 with load := s.load } w s' hn1 k e
  | d + 1, .proc p, s, w, s', hn, h, e => by
    rw [lx] at e
    split at e
    · cases e; exact .inr h
    · split at e
      · cases e
      · rename_i w1 s1 h1
        have k := lx_cnt d (.blk (bo.getD p [])) { s with begun := s.begun.set p (s.begun.getD p [] ++ [s.taken]) } w1 s1 hn h h1
        split at e
        · cases e; exact k
        · cases e; exact k
theorem rn_done : ∀ (k : Nat) {s : Cf}, s.frs = [] → rn c bits bo k s = .ok s
  | 0, _, _ => rfl
  | k + 1, s, h => by
    rw [rn, advC, h]
    exact rn_done k h
theorem go_ok : ∀ (k : Nat) {s s' : Cf}, rn c bits bo k s = .ok s' → s'.frs = [] → goC c bits bo k s = some (.ok s')
  | 0, s, s', h, hf => by
    cases h
    rw [goC, if_pos hf]
  | k + 1, s, s', h, hf => by
    rw [goC]
    by_cases hz : s.frs = []
    · rw [if_pos hz]
      rw [rn_done _ hz] at h
      cases h; rfl
    · rw [if_neg hz]
      rw [rn] at h
      cases ha : advC c bits bo s with
      | error e => rw [ha] at h; cases h
      | ok s1 =>
        rw [ha] at h
        exact go_ok k h hf
theorem go_err {i : Int} : ∀ (k : Nat) {s : Cf}, rn c bits bo k s = .error i → goC c bits bo k s = some (.error i)
  | 0, s, h => by cases h
  | k + 1, s, h => by
    rw [goC]
    by_cases hz : s.frs = []
    · rw [rn_done _ hz] at h; cases h
    · rw [if_neg hz]
      rw [rn] at h
      cases ha : advC c bits bo s with
      | error e =>
        rw [ha] at h
        cases h; rfl
      | ok s1 =>
        rw [ha] at h
        exact go_err k h
/-- the law's word on a run -/
structure RunL (c : Nat) (bo : List (List Stm)) (p : Nat) (bits : List Nat) (v : List Int) (l : Int) (w : Option Nat) (s' : Ls) (r : Except Int Cf) : Prop where
  run : Run1 c bo p bits r
  no : ∀ i, s'.err = some (.no i) → r = .error i
  short : s'.err = none → s'.taken < bits.length → r = .error (s'.taken : Int)
  ok : s'.err = none → ¬s'.taken < bits.length → ∃ sC, r = .ok sC ∧ w = some sC.way ∧ sC.len = s'.len ∧ behB sC.steps (vecL 1 v l) = vecL 1 s'.stand s'.load
theorem lx_run {d p : Nat} {v : List Int} {l : Int} {w : Option Nat} {s' : Ls} (hbo : ∀ b ∈ bo, ∃ lv, okL c m b lv) (hm : bo.length = m) (hc : c ≤ 3) (hb1 : ∀ x ∈ bits, x ≤ 1) (hbl : bits.length ≤ 1000) (hp : p < m) (hv : v.length = c)
    (e : lx bits bo d (.proc p) (ls0 bo v l) = some (w, s')) (hn : s'.err ≠ some .long) : ∃ r, RunL c bo p bits v l w s' r := by
  have ho : LOk c bits m (ls0 bo v l) := by rw [← hm]; exact ls0_ok hv
  have G : OutP c bits bo (vecL 1 v l) (bgnC bo (iniC bo) p none) w (ls0 bo v l) s' p none [] [] := sim_all (v0 := vecL 1 v l) hbo hm hc hb1 d (.proc p) (ls0 bo v l) w s' hp ho rfl e (iniC bo) none [] [] ⟨rfl, rfl, rfl, rfl, rfl⟩
  have K := lx_keep hbo hm hc d (.proc p) _ w s' hp ho e
  have hcnt : s'.cnt ≤ 500 := by
    rcases lx_cnt d (.proc p) _ w s' (show (ls0 bo v l).err = none from rfl) (show (ls0 bo v l).cnt ≤ 500 from Nat.zero_le _) e with h | h
    · exact absurd h hn
    · exact h
  have htk := K.ok.tk
  have kb : ∀ {k ee : Nat}, ee ≤ 2 → Bnd k (ls0 bo v l) s' ee → k ≤ 18000 := fun {k ee} h1 h2 => by
    unfold Bnd at h2
    omega
  have hR : ∀ {n : Nat} {r : Except Int Cf}, n ≤ 18000 → runC c bits bo p n = some r → Run1 c bo p bits r := fun h1 h2 => ⟨hb1, by omega, _, h1, h2⟩
  cases her : s'.err with
  | some z =>
    cases z with
    | long => exact absurd her hn
    | no i =>
      obtain ⟨k, h1, h2⟩ := G.er i her
      refine ⟨.error i, hR (kb (Nat.le_refl _) h2) ?_, fun j hj => (by rw [her] at hj; cases hj; rfl), fun z => (nomatch her.symm.trans z), fun z => (nomatch her.symm.trans z)⟩
      rw [runC]
      cases hb : bgnC bo (iniC bo) p none with
      | error e =>
        rw [hb] at h1
        cases h1; rfl
      | ok s0 =>
        rw [hb] at h1
        dsimp only
        rw [go_err k h1]
  | none =>
    obtain ⟨way, hw, k, mc1, st1, blk, pos, h1, h2, h3, h4, h5, h6⟩ := G.wy her
    have hend : endL way mc1 [⟨.body, blk, pos, p, none⟩] st1 = { mc1 with frs := [], steps := st1, begun := mc1.begun.set p (mc1.begun.getD p []).dropLast, way := way } := by
      rw [endL, if_pos rfl, if_pos rfl]
    rw [hend] at h1
    have hrun : ∀ r : Except Int Cf, (if mc1.taken < bits.length then some (Except.error (mc1.taken : Int)) else some (.ok { mc1 with frs := [], steps := st1, begun := mc1.begun.set p (mc1.begun.getD p []).dropLast, way := way })) = some r → runC c bits bo p k = some r := fun r hr => by
      rw [runC]
      cases hb : bgnC bo (iniC bo) p none with
      | error e => rw [hb] at h1; cases h1
      | ok s0 =>
        rw [hb] at h1
        dsimp only
        rw [go_ok k h1 rfl]
        exact hr
    rw [h2] at hrun
    by_cases ht : s'.taken < bits.length
    · rw [if_pos ht] at hrun
      exact ⟨_, hR (kb (by decide) h6) (hrun _ rfl), fun j hj => (nomatch her.symm.trans hj), fun _ _ => rfl, fun _ z => absurd ht z⟩
    · rw [if_neg ht] at hrun
      refine ⟨_, hR (kb (by decide) h6) (hrun _ rfl), fun j hj => (nomatch her.symm.trans hj), fun _ z => absurd z ht, fun _ _ => ⟨_, rfl, hw, h3, ?_⟩⟩
      show (st1.foldl stepB (vecL 1 v l, [])).1 = _
      have : st1.foldl stepB (vecL 1 v l, []) = _ := h5
      rw [this]
end
/-! ### errors, and bits that are left out -/
section
variable {c m : Nat} {bits : List Nat} {bo : List (List Stm)}
def ErrOk (n : Nat) (s' : Ls) : Prop := ∀ i, s'.err = some (.no i) → i = -2 ∨ i = (n : Int)
theorem ErrOk.none {n : Nat} {s : Ls} (h : s.err = none) : ErrOk n s := fun i hi => (nomatch h.symm.trans hi)
theorem bitL_ev (s : Ls) (h : s.err = none) : ErrOk bits.length (bitL bits s).2 := by
  rw [bitL]
  split
  · intro i hi
    cases hi
    exact .inr rfl
  · exact .none h
theorem lxL_ev {g : Stm → Ls → LR} (hg : ∀ x s w s', s.err = none → g x s = some (w, s') → ErrOk bits.length s') : ∀ (b : List Stm) (s : Ls) (w : Option Nat) (s' : Ls), ErrOk bits.length s → lxL g b s = some (w, s') → ErrOk bits.length s'
  | [], s, w, s', h, e => by rw [lxL] at e; cases e; exact h
  | x :: r, s, w, s', h, e => by
    rw [lxL] at e
    split at e
    · cases e; exact h
    · rename_i hz
      have hn : s.err = none := by
        cases hs : s.err with
        | none => rfl
        | some _ => rw [hs] at hz; exact absurd rfl hz
      split at e
      · cases e
      · rename_i w1 s1 h1
        cases e
        exact hg x s _ _ hn h1
      · rename_i s1 h1
        exact lxL_ev hg r s1 w s' (hg x s _ s1 hn h1) e
theorem lxA_ev {g : Ls → LR} (hg : ∀ s w s', s.err = none → g s = some (w, s') → ErrOk bits.length s') : ∀ (n : Nat) (s : Ls) (w : Option Nat) (s' : Ls), s.err = none → lxA bits g n s = some (w, s') → ErrOk bits.length s'
  | 0, s, w, s', h, e => by rw [lxA] at e; cases e; exact .none h
  | n + 1, s, w, s', hn, e => by
    rw [lxA] at e
    split at e
    · cases e
      exact bitL_ev s hn
    · rename_i hz
      split at e
      · cases e
      · rename_i w1 s1 h1
        have k := hg _ w1 s1 (bitL_err hn hz) h1
        split at e
        · cases e; exact k
        · rename_i hz2
          have hn1 : s1.err = none := by
            cases hs : s1.err with
            | none => rfl
            | some _ => exact absurd (.inr (by rw [hs]; rfl)) hz2
          exact lxA_ev hg n s1 w s' hn1 e
theorem lx_ev : ∀ (d : Nat) (t : Tk) (s : Ls) (w : Option Nat) (s' : Ls), s.err = none → lx bits bo d t s = some (w, s') → ErrOk bits.length s'
  | 0, t, s, w, s', _, e => by rw [lx] at e; cases e
  | d + 1, .blk b, s, w, s', h, e => by
    rw [lx] at e
    exact lxL_ev (fun x s w s' hn e => lx_ev d (.one x) s w s' hn e) b s w s' (.none h) e
  | d + 1, .one x, s, w, s', hn, e => by
    rw [lx] at e
    split at e
    · cases e
      intro i hi
      cases hi
    · cases x with
      | set k r => cases e; exact .none hn
      | carry r => cases e; exact .none hn
      | keep cs b => exact lx_ev d (.keep cs b) { s with cnt := s.cnt + 1 } w s' hn e
      | either a b =>
        rw [lx1] at e
        by_cases hb : (bitL bits { s with cnt := s.cnt + 1 }).2.err = none
        · exact lx_ev d _ (bitL bits { s with cnt := s.cnt + 1 }).2 w s' hb e
        · obtain ⟨_, rfl⟩ := lx_blk_err (err_no hb) e
          exact bitL_ev { s with cnt := s.cnt + 1 } hn
      | again b => exact lx_ev d (.again b) { s with cnt := s.cnt + 1 } w s' hn e
      | call p r a b => exact lx_ev d (.call p r a b) { s with cnt := s.cnt + 1 } w s' hn e
      | fin w1 => cases e; exact .none hn
  | d + 1, .keep cs b, s, w, s', hn, e => by
    rw [lx] at e
    split at e
    · cases e
    · rename_i w1 s1 h1
      cases e
      exact lx_ev d (.blk b) s w s1 hn h1
  | d + 1, .again b, s, w, s', hn, e => by
    rw [lx] at e
    exact lxA_ev (fun s w s' hn e => lx_ev d (.blk b) s w s' hn e) _ s w s' hn e
  | d + 1, .call p r a b, s, w, s', hn, e => by
    rw [lx] at e
    split at e
    · cases e
    · rename_i s1 h1
      cases e
      exact lx_ev d (.proc p) { s with load := totL r s.stand s.load } _ s1 hn h1
    · rename_i w1 s1 h1
      have hn1 : s1.err = none := proc_some h1
      exact lx_ev d _ { s1 with load := s.load } w s' hn1 e
  | d + 1, .proc p, s, w, s', hn, e => by
    rw [lx] at e
    split at e
    · cases e
      intro i hi
      cases hi
      exact .inl rfl
    · split at e
      · cases e
      · rename_i w1 s1 h1
        have k := lx_ev d (.blk (bo.getD p [])) { s with begun := s.begun.set p (s.begun.getD p [] ++ [s.taken]) } w1 s1 hn h1
        split at e
        · cases e; exact k
        · cases e; exact k
/-! #### the bits that are taken do -/
theorem bit_cut {n : Nat} {s : Ls} (h : (bitL bits s).2.err = none) (hn : (bitL bits s).2.taken ≤ n) (hle : n ≤ bits.length) : bitL (bits.take n) s = bitL bits s := by
  rw [bitL] at h hn
  rw [bitL, bitL, List.length_take, Nat.min_eq_left hle]
  by_cases hz : bits.length ≤ s.taken
  · rw [if_pos hz] at h; cases h
  · rw [if_neg hz] at hn
    rw [if_neg hz, if_neg (by have : s.taken + 1 ≤ n := hn; omega)]
    rw [List.getD_eq_getElem?_getD, List.getElem?_take_of_lt (by have : s.taken + 1 ≤ n := hn; omega), ← List.getD_eq_getElem?_getD]
theorem lxL_cut {g g' : Stm → Ls → LR} {n lv : Nat} (hk : ∀ x s w s', okS c m x lv → LOk c bits m s → g x s = some (w, s') → LKeep c bits m s s') (hg : ∀ x s w s', okS c m x lv → LOk c bits m s → s.err = none → g x s = some (w, s') → s'.err = none → s'.taken ≤ n → g' x s = some (w, s')) :
    ∀ (b : List Stm) (s : Ls) (w : Option Nat) (s' : Ls), okL c m b lv → LOk c bits m s → s.err = none → lxL g b s = some (w, s') → s'.err = none → s'.taken ≤ n → lxL g' b s = some (w, s') ∧ s.taken ≤ s'.taken
  | [], s, w, s', _, _, _, e, _, _ => by rw [lxL] at e ⊢; cases e; exact ⟨rfl, Nat.le_refl _⟩
  | x :: r, s, w, s', hb, ho, hs, e, hn, ht => by
    rw [okL] at hb
    rw [lxL, if_neg (not_some hs)] at e ⊢
    cases hf : g x s with
    | none => rw [hf] at e; cases e
    | some res =>
      obtain ⟨w1, s1⟩ := res
      have k := hk x s w1 s1 hb.1 ho hf
      rw [hf] at e
      cases w1 with
      | some w2 =>
        cases e
        rw [hg x s _ _ hb.1 ho hs hf hn ht]
        exact ⟨rfl, k.tk⟩
      | none =>
        dsimp only at e
        have hn1 : s1.err = none := by
          by_cases z : s1.err = none
          · exact z
          · obtain ⟨_, rfl⟩ := lxL_err (err_no z) e
            exact hn
        have h2 : s1.taken ≤ n := Nat.le_trans (lxL_tk hk r s1 w s' hb.2 k.ok e) ht
        rw [hg x s _ s1 hb.1 ho hs hf hn1 h2]
        obtain ⟨i1, i2⟩ := lxL_cut hk hg r s1 w s' hb.2 k.ok hn1 e hn ht
        exact ⟨i1, Nat.le_trans k.tk i2⟩
where
  lxL_tk {g : Stm → Ls → LR} {lv : Nat} (hk : ∀ x s w s', okS c m x lv → LOk c bits m s → g x s = some (w, s') → LKeep c bits m s s') (b : List Stm) (s : Ls) (w : Option Nat) (s' : Ls) (hb : okL c m b lv) (ho : LOk c bits m s) (e : lxL g b s = some (w, s')) : s.taken ≤ s'.taken := (lxL_keep hk b s w s' hb ho e).tk
theorem lxA_cut {g g' : Ls → LR} {n : Nat} (hle : n ≤ bits.length) (hk : ∀ s w s', LOk c bits m s → g s = some (w, s') → LKeep c bits m s s') (hg : ∀ s w s', LOk c bits m s → s.err = none → g s = some (w, s') → s'.err = none → s'.taken ≤ n → g' s = some (w, s')) :
    ∀ (k k' : Nat) (s : Ls) (w : Option Nat) (s' : Ls), bits.length + 1 ≤ k + s.taken → n + 1 ≤ k' + s.taken → LOk c bits m s → s.err = none → lxA bits g k s = some (w, s') → s'.err = none → s'.taken ≤ n → lxA (bits.take n) g' k' s = some (w, s')
  | 0, _, s, w, s', h1, _, ho, _, _, _, _ => absurd h1 (by have := ho.tk; omega)
  | k + 1, k', s, w, s', h1, h2, ho, hs, e, hn, ht => by
    have k0 := bit_keep ho
    rw [lxA] at e
    have hkp : ∀ {s1 : Ls}, LKeep c bits m (bitL bits s).2 s1 → s1.taken ≤ n → s.taken < n := fun {s1} K h => by
      have := K.tk
      have : (bitL bits s).2.err = none → s.taken + 1 ≤ (bitL bits s).2.taken := fun z => by
        rw [bitL] at z ⊢
        split at z
        · cases z
        · rename_i hz
          rw [if_neg hz]; exact Nat.le_refl _
      by_cases z : (bitL bits s).2.err = none
      · have := this z; omega
      · exfalso
        have hz0 : (bitL bits s).1 = 0 := by
          rw [bitL] at z ⊢
          split
          · rfl
          · rename_i hz; rw [if_neg hz] at z; exact absurd hs z
        rw [if_pos hz0] at e
        cases e
        exact z hn
    have hb : (bitL bits s).2.err = none := by
      by_cases hz : (bitL bits s).1 = 0
      · rw [if_pos hz] at e
        cases e
        exact hn
      · exact bitL_err hs hz
    have htk : (bitL bits s).2.taken ≤ n := by
      by_cases hz : (bitL bits s).1 = 0
      · rw [if_pos hz] at e
        cases e
        exact ht
      · rw [if_neg hz] at e
        have : LKeep c bits m (bitL bits s).2 s' := by
          cases hf : g (bitL bits s).2 with
          | none => rw [hf] at e; cases e
          | some res =>
            obtain ⟨w1, s1⟩ := res
            rw [hf] at e
            dsimp only at e
            have K := hk _ w1 s1 k0.ok hf
            split at e
            · cases e; exact K
            · exact K.trans (lxA_keep hk k s1 w s' K.ok e)
        exact Nat.le_trans this.tk ht
    have hbt := bit_cut hb htk hle
    have hst : s.taken < n := hkp (.refl k0.ok) htk
    obtain ⟨k'', rfl⟩ : ∃ k'', k' = k'' + 1 := ⟨k' - 1, by omega⟩
    rw [lxA, hbt]
    by_cases hz : (bitL bits s).1 = 0
    · rw [if_pos hz] at e ⊢
      exact e
    · rw [if_neg hz] at e ⊢
      cases hf : g (bitL bits s).2 with
      | none => rw [hf] at e; cases e
      | some res =>
        obtain ⟨w1, s1⟩ := res
        rw [hf] at e
        dsimp only at e
        have K := hk _ w1 s1 k0.ok hf
        have hs1 : s1.err = none ∧ s1.taken ≤ n := by
          split at e
          · cases e; exact ⟨hn, ht⟩
          · rename_i hz2
            refine ⟨?_, Nat.le_trans (lxA_keep hk k s1 w s' K.ok e).tk ht⟩
            cases hq : s1.err with
            | none => rfl
            | some _ => exact absurd (.inr (by rw [hq]; rfl)) hz2
        rw [hg _ w1 s1 k0.ok hb hf hs1.1 hs1.2]
        dsimp only
        have htt : s.taken + 1 ≤ s1.taken := by
          have h3 := K.tk
          have : (bitL bits s).2.taken = s.taken + 1 := by
            rw [bitL] at hz ⊢
            split
            · rename_i hl; rw [if_pos hl] at hz; exact absurd rfl hz
            · rfl
          omega
        split at e
        · rename_i hz2
          rw [if_pos hz2]; exact e
        · rename_i hz2
          rw [if_neg hz2]
          exact lxA_cut hle hk hg k k'' s1 w s' (by omega) (by omega) K.ok hs1.1 e hn ht
theorem lx_cut {n : Nat} (hle : n ≤ bits.length) (hbo : ∀ b ∈ bo, ∃ lv, okL c m b lv) (hm : bo.length = m) (hc : c ≤ 3) : ∀ (d : Nat) (t : Tk) (s : Ls) (w : Option Nat) (s' : Ls), TkOk c m t → LOk c bits m s → s.err = none → lx bits bo d t s = some (w, s') → s'.err = none → s'.taken ≤ n → lx (bits.take n) bo d t s = some (w, s')
  | 0, t, s, w, s', _, _, _, e, _, _ => by rw [lx] at e; cases e
  | d + 1, .blk b, s, w, s', ⟨lv, hb⟩, ho, hs, e, hn, ht => by
    rw [lx] at e ⊢
    exact (lxL_cut (fun x s w s' hx h e => lx_keep hbo hm hc d (.one x) s w s' ⟨lv, hx⟩ h e) (fun x s w s' hx h he e hn ht => lx_cut hle hbo hm hc d (.one x) s w s' ⟨lv, hx⟩ h he e hn ht) b s w s' hb ho hs e hn ht).1
  | d + 1, .one x, s, w, s', ⟨lv, hx⟩, ho, hs, e, hn, ht => by
    rw [lx] at e ⊢
    have ho1 : LOk c bits m { s with cnt := s.cnt + 1 } := ho.of rfl
    by_cases h5 : 500 < s.cnt + 1
    · rw [if_pos h5] at e
      cases e
      cases hn
    · rw [if_neg h5] at e ⊢
      cases x with
      | set k r => exact e
      | carry r => exact e
      | keep cs b =>
        rw [okS] at hx
        exact lx_cut hle hbo hm hc d (.keep cs b) _ w s' ⟨hx.2.1.2, by have := asc_len hx.2.1; omega, _, hx.2.2.2⟩ ho1 hs e hn ht
      | either a b =>
        rw [okS] at hx
        rw [lx1] at e ⊢
        have k0 := bit_keep ho1
        have hblk : ∃ lv, okL c m (if (bitL bits { s with cnt := s.cnt + 1 }).1 = 0 then a else b) lv := by
          split
          · exact ⟨_, hx.2.2.1⟩
          · exact ⟨_, hx.2.2.2.2⟩
        have hb : (bitL bits { s with cnt := s.cnt + 1 }).2.err = none := by
          by_cases z : (bitL bits { s with cnt := s.cnt + 1 }).2.err = none
          · exact z
          · obtain ⟨_, rfl⟩ := lx_blk_err (err_no z) e
            exact hn
        have K := lx_keep hbo hm hc d (.blk _) _ w s' hblk k0.ok e
        rw [bit_cut hb (Nat.le_trans K.tk ht) hle]
        exact lx_cut hle hbo hm hc d (.blk _) _ w s' hblk k0.ok hb e hn ht
      | again b =>
        rw [okS] at hx
        exact lx_cut hle hbo hm hc d (.again b) _ w s' ⟨_, hx.2.2⟩ ho1 hs e hn ht
      | call p r a b =>
        rw [okS] at hx
        exact lx_cut hle hbo hm hc d (.call p r a b) _ w s' ⟨hx.2.1, hx.2.2.1, ⟨_, hx.2.2.2.2.1⟩, ⟨_, hx.2.2.2.2.2.2⟩⟩ ho1 hs e hn ht
      | fin w1 => exact e
  | d + 1, .keep cs b, s, w, s', ⟨_, _, hb⟩, ho, hs, e, hn, ht => by
    rw [lx] at e ⊢
    cases hf : lx bits bo d (.blk b) s with
    | none => rw [hf] at e; cases e
    | some res =>
      obtain ⟨w1, s1⟩ := res
      rw [hf] at e
      cases e
      rw [lx_cut hle hbo hm hc d (.blk b) s w s1 hb ho hs hf hn ht]
  | d + 1, .again b, s, w, s', hb, ho, hs, e, hn, ht => by
    rw [lx] at e ⊢
    rw [List.length_take, Nat.min_eq_left hle]
    exact lxA_cut hle (fun s w s' h e => lx_keep hbo hm hc d (.blk b) s w s' hb h e) (fun s w s' h he e hn ht => lx_cut hle hbo hm hc d (.blk b) s w s' hb h he e hn ht) _ _ s w s' (by omega) (by omega) ho hs e hn ht
  | d + 1, .call p r a b, s, w, s', ⟨hp, _, ha, hb⟩, ho, hs, e, hn, ht => by
    rw [lx] at e ⊢
    have ho1 : LOk c bits m { s with load := totL r s.stand s.load } := ho.of rfl
    cases hf : lx bits bo d (.proc p) { s with load := totL r s.stand s.load } with
    | none => rw [hf] at e; cases e
    | some res =>
      obtain ⟨w1, s1⟩ := res
      rw [hf] at e
      have K := lx_keep hbo hm hc d (.proc p) _ w1 s1 hp ho1 hf
      cases w1 with
      | none =>
        cases e
        have hne : s1.err ≠ none := proc_none hf
        exact absurd hn hne
      | some w2 =>
        dsimp only at e
        have hn1 := proc_some hf
        have ho2 : LOk c bits m { s1 with load := s.load } := K.ok.of rfl
        have hblk : ∃ lv, okL c m (if w2 = 0 then a else b) lv := by
          split
          · exact ha
          · exact hb
        have K2 := lx_keep hbo hm hc d (.blk _) _ w s' hblk ho2 e
        have h2 : s1.taken ≤ n := Nat.le_trans K2.tk ht
        rw [lx_cut hle hbo hm hc d (.proc p) _ _ s1 hp ho1 hs hf hn1 h2]
        exact lx_cut hle hbo hm hc d (.blk _) _ w s' hblk ho2 hn1 e hn ht
  | d + 1, .proc p, s, w, s', hp, ho, hs, e, hn, ht => by
    rw [lx] at e ⊢
    have hp : p < m := hp
    by_cases hz : (s.begun.getD p []).getLast? = some s.taken
    · rw [if_pos hz] at e
      cases e
      cases hn
    · rw [if_neg hz] at e ⊢
      have hbp : ∃ lv, okL c m (bo.getD p []) lv := by
        rw [List.getD_eq_getElem?_getD, List.getElem?_eq_getElem (by omega)]
        exact hbo _ (List.getElem_mem _)
      have h0 : LOk c bits m { s with begun := s.begun.set p (s.begun.getD p [] ++ [s.taken]) } := proc_ok0 ho hp hz
      cases hf : lx bits bo d (.blk (bo.getD p [])) { s with begun := s.begun.set p (s.begun.getD p [] ++ [s.taken]) } with
      | none => rw [hf] at e; cases e
      | some res =>
        obtain ⟨w1, s1⟩ := res
        rw [hf] at e
        dsimp only at e
        by_cases hq : s1.err = none
        · rw [if_neg (not_some hq)] at e
          cases e
          rw [lx_cut hle hbo hm hc d (.blk _) _ w1 s1 hbp h0 hs hf hq ht]
          dsimp only
          rw [if_neg (not_some hq)]
        · rw [if_pos (err_no hq)] at e
          cases e
          exact absurd hn hq
end
abbrev s_law_number : Stmt := topS 52
theorem sc_law_number : FnScope ["pool"] ["pool"] (defScope s_law_number) := ⟨rfl, rfl, rfl, by decide +kernel, rfl, by decide +kernel, by decide +kernel⟩
section
variable {P : Program} {w : World} {K : PySem.W.Frag} {mg : Str → Option Value} {base : Heap}
def spNumber : Sp := fun vs H Q _ => ∃ (p q : Addr), vs = [.ref p] ∧ Pool H p q ∧ ∀ r H', r.natAbs < 2 ^ 170 → Oth p H H' → Pool H' p q → Q (.int r) H'
theorem ok_number {f : Addr} {fd : FuncData} {k : Nat} (F : Fun K "_law_number" "_law_number" s_law_number f fd) (C_law_draw : Cal P w K mg base 1 "_law_draw" spDraw []) (hk : 1 ≤ k) : FnOk P w K mg base CX0 (k + 1) f fd ["pool"] spNumber := by
  have sc := sc_law_number
  refine F.ok sc (fun vs H Q E h => ?_) (fun cdv A outer s H vs Q E hr h => ?_)
  · obtain ⟨p, q0, rfl, _⟩ := h
    rfl
  · obtain ⟨p, q0, rfl, x, q⟩ := h
    refine ⟨_, (pss_cons (ps_if (pt_cmpR op_eq (pe_c C_law_draw hr (by omega) (by rfl) (pa_cons (pv 0) (pa_cons pe_int pa_nil))) pe_int (nomark _))
      (pss_one (ps_ret (pe_op op_sub (pe_c C_law_draw hr (by omega) (by rfl) (pa_cons (pv 0) (pa_cons (pe_op op_mul pe_int (pe_op op_pow pe_int pe_int)) pa_nil))) (pe_op op_pow pe_int pe_int))))
      pss_nil)
      (pss_one (ps_ret (pe_op op_sub (pe_c C_law_draw hr (by omega) (by rfl) (pa_cons (pv 0) (pa_cons pe_int pa_nil))) pe_int)))), ?_⟩
    refine ⟨.ref p, rfl, p, q0, 5, rfl, by decide, by decide, x, fun r H1 h0 h1 o1 x1 => ?_⟩
    refine ⟨rfl, _, rfl, ite2 (fun _ => ?_) (fun _ => ?_)⟩
    · refine ⟨.ref p, rfl, 10, 49, rfl, rfl, ⟨by decide, by decide, by decide⟩, 2, _, rfl, rfl, .inl ⟨by decide, by decide⟩, p, q0, _, rfl, by decide, by decide, x1, fun r H2 h0 h1 o2 x2 => ?_⟩
      refine ⟨10, 49, rfl, rfl, ⟨by decide, by decide, by decide⟩, r, _, rfl, rfl, q _ _ ?_ (o1.trans o2) x2⟩
      have e : (2 * 10 ^ (49 : Int).toNat : Int) = 20000000000000000000000000000000000000000000000000 := by decide
      have e2 : (10 ^ (49 : Int).toNat : Int) = 10000000000000000000000000000000000000000000000000 := by decide
      have e3 : (2 ^ 170 : Nat) = 1496577676626844588240573268701473812127674924007424 := by decide
      rw [e] at h1
      rw [e2, e3]
      omega
    · refine ⟨.ref p, rfl, p, q0, 11, rfl, by decide, by decide, x1, fun r H2 h0 h1 o2 x2 => ?_⟩
      refine ⟨r, 5, rfl, rfl, q _ _ ?_ (o1.trans o2) x2⟩
      have e3 : (2 ^ 170 : Nat) = 1496577676626844588240573268701473812127674924007424 := by decide
      rw [e3]
      omega
end
/-! ### what draws -/
section
variable {K : PySem.W.Frag} {σ : L2.St} {H H' : Hp} {te : TE} {p q : Addr}
/-- te draws, and gives an int that is good -/
def Dw (p q : Addr) (te : TE) (σ : L2.St) (good : Int → Prop) : Prop := ∀ H1, Pool H1 p q → ∀ Q : VK, (∀ z H2, good z → Oth p H1 H2 → Pool H2 p q → Q (.int z) H2) → te σ H1 Q
/-- [e for k in range(n)] -/
theorem dw_rng {tr : TA} {j : Nat} {vs : List Nat} {n : Nat} {good : Int → Prop} (h : ∀ H1, EvA tr σ H1 [.int (n : Int)]) (hn : n ≤ 40000) (hw : ∀ x, wipe ((wipe σ vs).set j (some x)) vs = wipe σ vs)
    (he : ∀ i, i < n → Dw p q te ((wipe σ vs).set j (some (.int (i : Int)))) good) (x : Pool H p q) {Q : VK}
    (k : ∀ (ns : List Int) (D : Addr) (H2 : Hp), ns.length = n → (∀ z ∈ ns, good z) → H D = none → Oth p H H2 → Pool H2 p q → H2 D = some (.lst (ns.map V.int)) → Q (.ref D) H2) : tLc (iRng1 tr) (gName j) tYes te vs σ H Q :=
  h H H (Ex.refl H) _ fun H1 e1 => ⟨(n : Int), rfl, by omega, by omega, fun D hD => by
  have x1 := x.ex e1
  have hDp : D ≠ p := fun z => by
    obtain ⟨o, ho⟩ := x1.isP
    rw [z, ho] at hD; cases hD
  have hDq : D ≠ q := fun z => by
    obtain ⟨o, ho⟩ := x1.isQ
    rw [z, ho] at hD; cases hD
  refine lc_range (lo := 0) (n := ((n : Int) - 0).toNat) (fun i H' => ∃ ns : List Int, ns.length = i ∧ (∀ z ∈ ns, good z) ∧ Oth p H1 H' ∧ Pool H' p q ∧ H' D = some (.lst (ns.map V.int))) ⟨[], rfl, fun _ h => (nomatch h), .of (Ex.new hD), x1.ex (Ex.new hD), upd_same⟩ (fun i H' hi hP => ?_) (fun H' hP => ?_)
  · obtain ⟨ns, rfl, hg, o, x', hd⟩ := hP
    have e0 : (0 : Int) + (ns.length : Int) = (ns.length : Int) := Int.zero_add _
    show wipe ((wipe σ vs).set j (some (.int ((0 : Int) + (ns.length : Int))))) vs = wipe σ vs ∧ _
    refine ⟨hw _, ?_⟩
    rw [e0]
    show te _ _ _
    refine he _ (by omega) H' x' _ fun z H2 gz o2 x2 => ⟨_, o2 _ _ hDp hd, ?_, ns ++ [z], by simp, fun y hy => ?_, fun c u nc hc => ?_, x2.upd hDp hDq, ?_⟩
    · rw [List.length_map]; exact sz_lt (by omega)
    · rcases List.mem_append.mp hy with hy | hy
      · exact hg y hy
      · rw [List.mem_singleton.mp hy]; exact gz
    · rw [upd_ne (ne_of_none hc hD)]
      exact o2 _ _ nc (o _ _ nc hc)
    · rw [upd_same, List.map_append]; rfl
  · obtain ⟨ns, hl, hg, o, x', hd⟩ := hP
    exact k ns D H' (by omega) hg (fresh_back e1 hD) ((Oth.of e1).trans o) x' hd⟩
end
/-! ### bits drawn -/
section
variable {K : PySem.W.Frag} {σ : L2.St} {H H' : Hp} {te : TE} {p q : Addr}
theorem dw_bit {i : Nat} {E : XK} (hσ : σ[i]? = some (some (.ref p))) : Dw p q (tCB (fun xs H Q => (∃ i, xs = [V.int i] ∧ Q (.int i) H) ∨ ∃ k, xs = [V.bl k] ∧ Q (.int (if k then 1 else 0)) H) (tCons (tOp rEq (tCall spDraw [] E (tCons (tVar i) (tCons (tC (.int 3)) tNil))) (tC (.int 0))) tNil)) σ (fun z => z = 0 ∨ z = 1) := fun H1 x Q k =>
  ⟨.ref p, hσ, p, q, 3, rfl, by decide, by decide, x, fun r H2 r0 r3 o x2 => ⟨rfl, .inr ⟨_, rfl, k _ H2 (by split <;> simp) o x2⟩⟩⟩
theorem bits_of {ns : List Int} (h : ∀ z ∈ ns, z = 0 ∨ z = 1) : ∃ bits : List Nat, ns.map V.int = bits.map nV ∧ bits.length = ns.length ∧ ∀ b ∈ bits, b ≤ 1 := by
  refine ⟨ns.map Int.toNat, ?_, by rw [List.length_map], fun b hb => ?_⟩
  · rw [List.map_map]
    refine List.map_congr_left fun z hz => ?_
    show V.int z = V.int ((z.toNat : Nat) : Int)
    rcases h z hz with rfl | rfl <;> rfl
  · obtain ⟨z, hz, rfl⟩ := List.mem_map.mp hb
    rcases h z hz with rfl | rfl <;> decide
theorem lp1 {u : V} {a : Str} (h : Dp K H u (.list [.str a])) : ∃ A, u = .ref A ∧ SqL K H A [.str a] := by
  obtain ⟨A, xs, rfl, s, hx⟩ := dp_lst h
  cases hx with
  | cons h1 h2 =>
    cases h1
    cases h2
    exact ⟨A, rfl, s⟩
theorem lp2 {u : V} {a : Str} {i : Int} (h : Dp K H u (.list [.str a, .int i])) : ∃ A, u = .ref A ∧ SqL K H A [.str a, .int i] := by
  obtain ⟨A, xs, rfl, s, hx⟩ := dp_lst h
  cases hx with
  | cons h1 h2 =>
    cases h1
    cases h2 with
    | cons h3 h4 =>
      cases h3
      cases h4
      exact ⟨A, rfl, s⟩
theorem cbL_bits : ∀ (bs : List Nat) (i : Nat), (∀ b ∈ bs, b ≤ 1) → cbL i ((bs.map (Nat.cast : Nat → Int)).map PyData.int) = none
  | [], _, _ => rfl
  | b :: r, i, h => by
    have hb0 := h b (List.mem_cons_self ..)
    rw [List.map_cons, List.map_cons, cbL, if_pos (by rw [btw, decide_eq_true (by omega), decide_eq_true (by omega)]; rfl)]
    exact cbL_bits r (i + 1) fun x hx => h x (List.mem_cons_of_mem _ hx)
theorem cbD_bits {bs : List Nat} (h : ∀ b ∈ bs, b ≤ 1) : cbD (LI (bs.map (Nat.cast : Nat → Int))) = none := cbL_bits bs 0 h
theorem cast_inj : ∀ {a b : List Nat}, (a.map (Nat.cast : Nat → Int)).map PyData.int = (b.map (Nat.cast : Nat → Int)).map PyData.int → a = b
  | [], [], _ => rfl
  | [], _ :: _, h => by cases h
  | _ :: _, [], h => by cases h
  | x :: r, y :: t, h => by
    rw [List.map_cons, List.map_cons, List.map_cons, List.map_cons] at h
    obtain ⟨h1, h2⟩ := List.cons_eq_cons.mp h
    have := PyData.int.inj h1
    rw [cast_inj h2, show x = y by omega]
theorem li_inj {a b : List Nat} (h : LI (a.map (Nat.cast : Nat → Int)) = LI (b.map (Nat.cast : Nat → Int))) : a = b := cast_inj (PyData.list.inj h)
theorem zero_list (c : Nat) : ((List.range c).map fun _ => V.int 0) = (List.replicate c (0 : Int)).map V.int := by
  rw [List.map_replicate, List.map_const', List.length_range]
theorem wy_of {u : V} {w : Option Nat} (h : Dp K H u (wyD w)) : u = wyV w := by
  cases w with
  | none => cases h; rfl
  | some w => cases h; rfl
theorem cut_toR (xs : List V) {k : Nat} (h : k ≤ xs.length) : cutV xs none (some (k : Int)) = xs.take k := by
  unfold cutV
  rw [HT.sIx_none, show HT.sIx xs.length xs.length (some (k : Int)) = min k xs.length from HT.sIx_nat xs.length xs.length k, Nat.min_eq_left h]
  show (xs.drop 0).take (k - 0) = _
  rw [List.drop_zero, Nat.sub_zero]
theorem rep_nats (bits : List Nat) : bits.map nV = (bits.map (Nat.cast : Nat → Int)).map V.int := by rw [List.map_map]; rfl
theorem cut_initB (xs : List Nat) : cutV (xs.map nV) none (some ((xs.length : Int) - 1)) = (xs.take (xs.length - 1)).map nV := by
  cases xs with
  | nil => rfl
  | cons a r =>
    have h : (((a :: r).length : Int) - 1) = (r.length : Int) := by rw [List.length_cons]; omega
    rw [h, cut_toR _ (by rw [List.length_map, List.length_cons]; omega), ← List.map_take, List.length_cons, Nat.add_sub_cancel]
theorem lp5 {u : V} {a : Str} {w : Option Nat} {v : List Int} {l n : Int} (h : Dp K H u (.list [.str a, wyD w, .tuple (v.map PyData.int), .int l, .int n])) : ∃ A T, u = .ref A ∧ SqL K H A [.str a, wyV w, .ref T, .int l, .int n] ∧ SqT K H T (v.map V.int) := by
  obtain ⟨A, xs, rfl, s, hx⟩ := dp_lst h
  cases hx with
  | cons h1 h2 =>
    cases h1
    cases h2 with
    | cons h3 h4 =>
      cases h4 with
      | cons h5 h6 =>
        obtain ⟨T, ys, rfl, sT, hy⟩ := dp_tup h5
        cases h6 with
        | cons h7 h8 =>
          cases h7
          cases h8 with
          | cons h9 h10 =>
            cases h9
            cases h10
            obtain rfl := wy_of h3
            rw [dp_ints hy] at sT
            exact ⟨A, T, rfl, s, sT⟩
end
abbrev s_law_bits : Stmt := topS 71
theorem sc_law_bits : FnScope ["pool", "most", "many", "k"] ["pool", "most"] (defScope s_law_bits) := ⟨rfl, rfl, rfl, by decide +kernel, rfl, by decide +kernel, by decide +kernel⟩
section
variable {P : Program} {w : World} {K : PySem.W.Frag} {mg : Str → Option Value} {base : Heap}
def spBits : Sp := fun vs H Q _ => ∃ (p q : Addr) (most : Nat), vs = [.ref p, .int (most : Int)] ∧ most ≤ 100 ∧ Pool H p q ∧ ∀ (bits : List Nat) (D : Addr) (H' : Hp), bits.length ≤ most → (∀ b ∈ bits, b ≤ 1) → H D = none → Oth p H H' → Pool H' p q → H' D = some (.lst (bits.map nV)) → Q (.ref D) H'
theorem ok_lbits {f : Addr} {fd : FuncData} {k : Nat} (F : Fun K "_law_bits" "_law_bits" s_law_bits f fd) (z_range : mg "range" = none) (z_int : mg "int" = none) (C_law_draw : Cal P w K mg base 1 "_law_draw" spDraw []) (hk : 1 ≤ k) : FnOk P w K mg base CX0 (k + 1) f fd ["pool", "most"] spBits := by
  have sc := sc_law_bits
  refine F.ok sc (fun vs H Q E h => ?_) (fun cdv A outer s H vs Q E hr h => ?_)
  · obtain ⟨p, q0, most, rfl, _⟩ := h
    rfl
  · obtain ⟨p, q0, most, rfl, hm, x, q⟩ := h
    refine ⟨_, (pss_cons (ps_set (i := 2) sc.nd rfl (by first | exact Or.inl rfl | exact Or.inr rfl) (pe_c C_law_draw hr (by omega) (by rfl) (pa_cons (pv 0) (pa_cons (pe_op op_add (pv 1) pe_int) pa_nil))))
      (pss_one (ps_ret (pe_lc (own := [("k", 3)]) (by rfl) sc.nd (pi_range1 (by rfl) z_range (pa_cons (pv 2) pa_nil)) (blkOk_by (own := [("k", 3)]) (N := ["pool", "most", "many", "k"]) (sc := defScope s_law_bits) (by decide +kernel)) (fun _ _ _ _ _ => (pg_name (i := 3) sc.nd rfl (by first | exact Or.inl rfl | exact Or.inr rfl))) (fun _ _ _ _ _ => pts_nil) (fun _ _ _ _ _ => (pe_callTy call_int1 (by rfl) z_int (by decide +kernel) (pa_cons (pe_cmpR op_eq (pe_c C_law_draw hr (by omega) (by rfl) (pa_cons (pv 0) (pa_cons pe_int pa_nil))) pe_int (nomark _)) pa_nil))))))), ?_⟩
    refine q_run ?_
    refine ⟨.ref p, rfl, .int (most : Int), rfl, (most : Int), 1, rfl, rfl, p, q0, _, rfl, by omega, ?_, x, fun r H1 r0 r1 o1 x1 => ?_⟩
    · exact Nat.lt_of_le_of_lt (show ((most : Int) + 1).natAbs ≤ 101 by omega) (by decide)
    obtain ⟨n, rfl⟩ : ∃ n : Nat, r = (n : Int) := ⟨r.toNat, by omega⟩
    refine dw_rng (n := n) (p := p) (q := q0) (fun H1 => ea_cons (ev_var rfl) ea_nil) (by omega) (fun _ => rfl) (fun i hi => dw_bit rfl) x1 fun ns D H2 hl hg hD o2 x2 h2 => ?_
    obtain ⟨bits, hb, hbl, hb1⟩ := bits_of hg
    rw [hb] at h2
    exact q bits D H2 (by omega) hb1 (new_back o1 x1.isP hD) (o1.trans o2) x2 h2
end
/-! ### several except clauses, with and without names -/
section
open Evl
/-- an exception a lies on the ground of X's frame: what stood before the try's body stands -/
def Lain (X : Cx) (pins : List (Addr × Obj)) (σ : L2.St) (H : Hp) (a : Addr) (cls : Value) (d : Option Addr) (s : Shared) : Prop :=
  ∃ (B : Heap) (t : Shared), Inv X pins σ H t ∧ (∀ b o, t.heap.get? b = some o → b ∉ frs X.stack → B.get? b = some o) ∧ t.heap.UpToSlots s.heap ∧ HandSPX.FlyingZ B (X.env :: X.outer) a (Zc cls d) s.heap ∧ s.os = t.os ∧ AllBare s.gens
variable {X : Cx} {pins : List (Addr × Obj)} {σ : L2.St} {H : Hp} {a : Addr} {cls : Value} {d : Option Addr} {s : Shared}
theorem Lain.inv (l : Lain X pins σ H a cls d s) : Inv X pins σ H s := by
  obtain ⟨B, t, J, kept, upto, fly, eos, bare⟩ := l
  exact J.landed kept fly.1 upto eos bare
/-- the object, and that it is no frame -/
theorem Lain.obj (l : Lain X pins σ H a cls d s) (hf : X.env.frame = some X.env.locals) : ∃ oe vs, s.heap.get? a = some oe ∧ Zc cls d oe ∧ oe.data = .fields vs ∧ a ≠ X.env.locals ∧ a ∉ X.fs := by
  obtain ⟨B, t, J, kept, upto, fly, eos, bare⟩ := l
  obtain ⟨oe, vs, e1, e2, e3⟩ := fly.there
  have out : a ∉ frs (X.env :: X.outer) := fun m => by
    obtain ⟨_, o2, e4, no⟩ := fly.2.2.1.mem m
    have e5 := e1.symm.trans e4
    cases e5
    exact no _ e3
  refine ⟨oe, vs, e1, e2, e3, fun z => out ?_, fun m => out ?_⟩
  · exact List.mem_filterMap.mpr ⟨X.env, List.mem_cons_self, by rw [hf, z]⟩
  · obtain ⟨f, m1, m2⟩ := List.mem_filterMap.mp m
    exact List.mem_filterMap.mpr ⟨f, List.mem_cons_of_mem _ m1, m2⟩
theorem Lain.again (l : Lain X pins σ H a cls d s) {A : Around} {E : Value → Shared → Prop} {Q : Unit → Shared → Prop} (k : ∀ h, Lain X pins σ H a cls d { s with heap := h } → Q () { s with heap := h }) : wpAny (model X.prog X.w) A (setFlight (.ref a) none) Q E s := by
  obtain ⟨B, t, J, kept, upto, fly, eos, bare⟩ := l
  exact HandSPX.lands_againZ fly fun h fly2 upto2 => k h ⟨B, t, J, kept, upto.trans upto2, fly2, eos, bare⟩
/-- no clause takes it -/
theorem Lain.out (l : Lain X pins σ H a cls d s) (hs : X.stack = X.env :: X.outer) (hf : X.env.frame = some X.env.locals) {Wout : WX} (tk : Takes X Wout) (na : H a = none) (h : Wout cls d σ H) {D : Ends} : wpAny (model X.prog X.w) X.A (handleBy (.ref a) X.env []) (SP X pins D) X.xe s := by
  obtain ⟨B, t, J, kept, upto, fly, eos, bare⟩ := l
  have parts := fly.2.2.2
  obtain ⟨oe, vs, T, oT, ts, e1, _, e3, e4, _⟩ := parts
  have go : wpAny (model X.prog X.w) X.A (setFlight (.ref a) X.env.frame >>= fun _ => (throw (.ref a) : Sem Flow)) (SP X pins D) X.xe s := by
    refine wpAny_bind ?_
    rw [hf]
    refine HandSPX.setFlight_upZ fly fun h2 held upto2 => wpAny_throw (tk _ _ ⟨a, B, t, pins, σ, H, cls, d, rfl, J, kept, upto.trans upto2, .inr (.inr ?_), na, eos, bare, h⟩)
    rw [hs]
    exact held
  apply wpAny_handleBy_nil
  unfold PySem.passOn
  apply wpAny_bind
  apply wpAny_field e1 e3 e4
  have nn : (Value.ref T == Value.none) = false := rfl
  simp only [nn]
  first | exact go | exact wpAny_bind (wpAny_pure go)
/-- a clause: its class, the place of its name, its suite -/
abbrev Cl := Value × Option Nat × (Addr → Value → Option Addr → TS)
/-- behind the suite the name is gone -/
def forget (i : Nat) (D : Ends) : Ends := { nx := fun σ H => D.nx (σ.set i none) H, rt := D.rt, bk := fun σ H => D.bk (σ.set i none) H, ct := fun σ H => D.ct (σ.set i none) H }
/-- the suite of a clause, the exception a at hand -/
def suiteW (c : Cl) (a : Addr) (cls : Value) (d : Option Addr) (D : Ends) (σ : L2.St) (H : Hp) : Prop :=
  match c.2.1 with
  | none => c.2.2 a cls d D σ H
  | some i => c.2.2 a cls d (forget i D) (σ.set i (some (.ref a))) H
/-- what the clauses wish -/
def wMix (K : PySem.W.Frag) (Wout : WX) (D : Ends) : List Cl → WX
  | [] => Wout
  | c :: r => fun cls d σ H => ∃ b, PySem.W.exmOne K cls c.1 = some b ∧ (b = true → ∀ a, H a = none → suiteW c a cls d D σ H) ∧ (b = false → wMix K Wout D r cls d σ H)
inductive Clauses (X : Cx) : List ExceptHandler → List Cl → Prop
  | nil : Clauses X [] []
  | bare {x : Str} {c : Value} {ts : Addr → Value → Option Addr → TS} {b : Stmt} {bs : List Stmt} {p q : Pos} {hs : List ExceptHandler} {l : List Cl} (hc : Names X x c)
      (hsu : ∀ (a : Addr) (oe : Obj) (cls : Value) (d : Option Addr) (pn : List (Addr × Obj)), Zc cls d oe → (∃ vs, oe.data = .fields vs) → PSs (X.suite a ((a, oe) :: pn)) (b :: bs) (ts a cls d)) (r : Clauses X hs l) :
      Clauses X (.ExceptHandler (some (.Name x p)) none (b :: bs) q :: hs) ((c, none, ts) :: l)
  | named {x n : Str} {c : Value} {i : Nat} {ts : Addr → Value → Option Addr → TS} {b : Stmt} {bs : List Stmt} {p q : Pos} {hs : List ExceptHandler} {l : List Cl} (hN : X.N.Nodup) (hi : X.N[i]? = some n) (hln : X.env.kindOf n = some .local) (hc : Names X x c)
      (hsu : ∀ (a : Addr) (oe : Obj) (cls : Value) (d : Option Addr) (pn : List (Addr × Obj)), Zc cls d oe → (∃ vs, oe.data = .fields vs) → PSs (X.suite a ((a, oe) :: pn)) (b :: bs) (ts a cls d)) (r : Clauses X hs l) :
      Clauses X (.ExceptHandler (some (.Name x p)) (some n) (b :: bs) q :: hs) ((c, some i, ts) :: l)
/-- the clause's test -/
theorem Lain.asked (l : Lain X pins σ H a cls d s) (hf : X.env.frame = some X.env.locals) (na : H a = none) {x : Str} {c : Value} {p : Pos} {b : Bool} (hc : Names X x c) (hb : PySem.W.exmOne X.K cls c = some b) {R : Bool → Shared → Prop} {E E' : Value → Shared → Prop} (k : R b s) :
    wpAny (model X.prog X.w) (X.A.mark (some (.ref a))) (eval (.Name x p) X.env) (fun v t => wpAny (model X.prog X.w) (X.A.mark (some (.ref a))) (excMatches (.ref a) v) R E t) E' s := by
  obtain ⟨oe, vs, e1, e2, e3, e4, e5⟩ := l.obj hf
  have S := l.inv.suite e1 e3 na e4 e5
  have kind : PySem.W.Looks (model X.prog X.w) s.heap (typeOf (.ref a)) cls := fun A Q E t kp q => wpAny_typeOf_ref (kp _ _ e1) (by rw [e2.1]; exact q)
  have meets := PySem.W.exm_one (M := model X.prog X.w) l.inv.kIn kind hb
  obtain ⟨g, nd, own | ⟨none_, boot, nn⟩⟩ := hc
  · exact ld_glob (X := X.suite a ((a, oe) :: (X.pn ++ pins))) S g own (meets.here k) nd
  · exact ld_blt (X := X.suite a ((a, oe) :: (X.pn ++ pins))) S g none_ boot (meets.here k) nn nd
/-- the clauses, one after the other -/
theorem Lain.handled {D : Ends} (hs : X.stack = X.env :: X.outer) (hf : X.env.frame = some X.env.locals) {Wout : WX} (tk : Takes X Wout) (na : H a = none) {hds : List ExceptHandler} {cl : List Cl} (hc : Clauses X hds cl) :
    ∀ {s : Shared}, Lain X pins σ H a cls d s → wMix X.K Wout D cl cls d σ H → wpAny (model X.prog X.w) X.A (handleBy (.ref a) X.env hds) (SP X pins D) X.xe s := by
  induction hc with
  | nil => exact fun l w => l.out hs hf tk na w
  | bare hc hsu r ih =>
    rintro s l ⟨b, hb, yes, no⟩
    apply wpAny_handleBy_cons _ (fun z => by cases z)
    apply codeAny_handlers_test
    apply l.asked hf na hc hb
    cases b with
    | false => exact ih l (no rfl)
    | true =>
      apply codeAny_handlers_suite
      refine l.again fun h l2 => ?_
      obtain ⟨oe, vs, e1, e2, e3, e4, e5⟩ := l2.obj hf
      have ok := l2.inv.ok
      have S := l2.inv.suite e1 e3 na e4 e5
      refine wpAny_mono ((hsu a oe cls d (X.pn ++ pins) e2 ⟨_, e3⟩).run [] _ _ H D S (yes rfl a na)) (fun fl t sp => ?_) (fun _ _ z => z.elim)
      cases fl with
      | ret u => obtain ⟨v, σ2, H2, S2, rv, q2⟩ := sp; exact ⟨v, σ2, H2, S2.unsuite ok, rv, q2⟩
      | next => obtain ⟨σ2, H2, S2, q2⟩ := sp; exact ⟨σ2, H2, S2.unsuite ok, q2⟩
      | brk => obtain ⟨σ2, H2, S2, q2⟩ := sp; exact ⟨σ2, H2, S2.unsuite ok, q2⟩
      | cont => obtain ⟨σ2, H2, S2, q2⟩ := sp; exact ⟨σ2, H2, S2.unsuite ok, q2⟩
  | @named x n c i ts b0 bs p q hs2 l2 hN hi hln hc hsu r ih =>
    rintro s l ⟨b, hb, yes, no⟩
    apply wpAny_handleBy_cons _ (fun z => by cases z)
    apply codeAny_handlers_test
    apply l.asked hf na hc hb
    cases b with
    | false => exact ih l (no rfl)
    | true =>
      apply codeAny_handlers_suite_as
      refine l.again fun h l2 => ?_
      obtain ⟨oe, vs, e1, e2, e3, e4, e5⟩ := l2.obj hf
      have ok := l2.inv.ok
      have S := l2.inv.suite e1 e3 na e4 e5
      refine store_ok (X := X.suite a ((a, oe) :: (X.pn ++ pins))) (v := .ref a) S hN hi (.inl hln) rfl (fun t1 S1 => ?_) (.inr hln)
      refine wpAny_mono ((hsu a oe cls d (X.pn ++ pins) e2 ⟨_, e3⟩).run [] t1 _ H (forget i D) S1 (yes rfl a na)) (fun fl t sp => ?_) (fun _ _ z => z.elim)
      cases fl with
      | ret u => obtain ⟨v, σ2, H2, S2, rv, q2⟩ := sp; exact gone_ok (S2.unsuite ok) hN hi hln fun t2 J2 => ⟨v, _, H2, J2, rv, q2⟩
      | next => obtain ⟨σ2, H2, S2, q2⟩ := sp; exact gone_ok (S2.unsuite ok) hN hi hln fun t2 J2 => ⟨_, H2, J2, q2⟩
      | brk => obtain ⟨σ2, H2, S2, q2⟩ := sp; exact gone_ok (S2.unsuite ok) hN hi hln fun t2 J2 => ⟨_, H2, J2, q2⟩
      | cont => obtain ⟨σ2, H2, S2, q2⟩ := sp; exact gone_ok (S2.unsuite ok) hN hi hln fun t2 J2 => ⟨_, H2, J2, q2⟩
/-- try: body, and clauses -/
theorem ps_try_mix {body : List Stmt} {h0 : ExceptHandler} {hds : List ExceptHandler} {cl : List Cl} {pos : Pos} {tb : WX → TS} {Wout : WX} (hs : X.stack = X.env :: X.outer) (hf : X.env.frame = some X.env.locals) (tk : Takes X Wout)
    (hb : ∀ (W : WX) (pn : List (Addr × Obj)) (xe : Value → Shared → Prop), Takes (X.tr pn xe) W → PassesOwn (model X.prog X.w) X.A X.env xe → PSs (X.tr pn xe) body (tb W)) (hc : Clauses X (h0 :: hds) cl) : PS X (.Try body (h0 :: hds) [] [] pos) (fun D σ H => tb (wMix X.K Wout D cl) D σ H) := by
  constructor
  intro pins s σ H D I h
  have ok := I.ok
  have frames : X.A.frames = some (X.env :: X.outer) := ok.frames.trans (by rw [hs])
  apply wpAny_Try_except
  have B := (hb (wMix X.K Wout D cl) (X.pn ++ pins) (fun e t1 => wpAny (model X.prog X.w) X.A (noteFrame e X.env) (fun _ t2 => wpAny (model X.prog X.w) X.A (setFlight e none) (fun _ t3 => wpAny (model X.prog X.w) X.A (handleBy e X.env (h0 :: hds)) (SP X pins D) X.xe t3) X.xe t2) X.xe t1) (fun u s' air => by
    obtain ⟨a, B, t, pins', σ', H', cls, d, rfl, J, kept, upto, sky, na, eos, bare, wish⟩ := air
    have J0 : Inv X pins σ' H' t := J.ofTry ok
    rw [show (X.tr (X.pn ++ pins) _).stack = X.env :: X.outer from hs] at sky
    exact Sky.land (M := model X.prog X.w) (A := X.A) (E₁ := X.xe) (Q := fun _ t3 => wpAny (model X.prog X.w) X.A (handleBy (.ref a) X.env (h0 :: hds)) (SP X pins D) X.xe t3) Zc.steady frames hf sky fun h3 fly upto3 => Lain.handled hs hf tk na hc ⟨B, t, J0, kept, upto.trans upto3, fly, eos, bare⟩ wish) PassesOwn.looking).run [] s σ H D (I.toTry _) h
  refine wpAny_mono B (fun fl t sp => ?_) (fun e t he => he)
  cases fl with
  | next => obtain ⟨σ2, H2, J2, q2⟩ := sp; exact wpAny_execs_nil ⟨σ2, H2, J2.ofTry ok, q2⟩
  | ret u => obtain ⟨v, σ2, H2, J2, rv, q2⟩ := sp; exact ⟨v, σ2, H2, J2.ofTry ok, rv, q2⟩
  | brk => obtain ⟨σ2, H2, J2, q2⟩ := sp; exact ⟨σ2, H2, J2.ofTry ok, q2⟩
  | cont => obtain ⟨σ2, H2, J2, q2⟩ := sp; exact ⟨σ2, H2, J2.ofTry ok, q2⟩
end
/-! ### a heap without what W holds -/
open Classical in
noncomputable def Cw (W : Addr → Prop) (H : Hp) : Hp := fun a => if W a then none else H a
section
variable {K : PySem.W.Frag} {σ : L2.St} {H H' Hb : Hp} {W : Addr → Prop} {p a : Addr} {ta tb te : TE}
theorem cw_o {o : HO} (h : H a = some o) (n : ¬ W a) : Cw W H a = some o := by rw [Cw, if_neg n]; exact h
theorem cw_ne {o : HO} (h : Cw W H a = some o) : ¬ W a ∧ H a = some o := by
  by_cases e : W a
  · rw [Cw, if_pos e] at h; cases h
  · rw [Cw, if_neg e] at h; exact ⟨e, h⟩
theorem cw_ex : Ex (Cw W H) H := fun a o h => (cw_ne h).2
theorem cw_mono (e : Ex H H') : Ex (Cw W H) (Cw W H') := fun a o h => cw_o (e a o (cw_ne h).2) (cw_ne h).1
/-- all that W holds is there -/
def Has (W : Addr → Prop) (H : Hp) : Prop := ∀ a, W a → ∃ u, H a = some u
theorem has_ex (e : Ex H H') (h : Has W H) : Has W H' := fun a w => (h a w).imp fun _ x => e _ _ x
theorem has_new (h : Has W H) (n : H a = none) : ¬ W a := fun w => by obtain ⟨u, hu⟩ := h a w; rw [n] at hu; cases hu
def DPw (K : PySem.W.Frag) (W : Addr → Prop) (d : PyData) (v : V) (H : Hp) : Prop := Dp K (Cw W H) v d
theorem dpw_ex {d : PyData} {v : V} (e : Ex H H') (h : DPw K W d v H) : DPw K W d v H' := dp_ex (cw_mono e) _ _ h
theorem cw_oth (wp : W p) (o : Oth p H H') : Ex (Cw W H) (Cw W H') := fun a u h => cw_o (o a u (fun z => (cw_ne h).1 (z ▸ wp)) (cw_ne h).2) (cw_ne h).1
theorem dpw_oth {d : PyData} {v : V} (wp : W p) (o : Oth p H H') (h : DPw K W d v H) : DPw K W d v H' := dp_ex (cw_oth wp o) _ _ h
/-- the pool, and all that W holds -/
structure PW (W : Addr → Prop) (H : Hp) (p q : Addr) : Prop where
  pool : Pool H p q
  has : Has W H
  wp : W p
theorem PW.isP {q : Addr} (x : PW W H p q) : Has W H := x.has
theorem PW.ex {q : Addr} (x : PW W H p q) (e : Ex H H') : PW W H' p q := ⟨x.pool.ex e, has_ex e x.has, x.wp⟩
theorem PW.oth {q : Addr} (x : PW W H p q) (o : Oth p H H') (y : Pool H' p q) : PW W H' p q := ⟨y, fun a w => by
  by_cases z : a = p
  · rw [z]; exact y.isP
  · exact (x.has a w).imp fun _ h => o _ _ z h, x.wp⟩
end
/-! ### menus -/
section
variable {P : Program} {w : World} {K : PySem.W.Frag} {mg : Str → Option Value} {base : Heap} {σ : L2.St} {H H' : Hp} {p a : Addr} {W : Addr → Prop} {te ta tb : TE} {Φ : V → Hp → Prop}
def EvDc (K : PySem.W.Frag) (W : Addr → Prop) (ta : TA) (σ : L2.St) (H : Hp) (ds : List PyData) : Prop := ∀ H1, Ex H H1 → ∀ Q : List V → Hp → Prop, (∀ vs H2, Ex H1 H2 → DpAll K (Cw W H2) vs ds → Q vs H2) → ta σ H1 Q
theorem edc_nil : EvDc K W tNil σ H [] := fun H1 _ _ q => q [] H1 (Ex.refl H1) .nil
theorem edc_cons {tr : TA} {d : PyData} {ds : List PyData} (h : EvP te σ H (DPw K W d)) (hr : EvDc K W tr σ H ds) : EvDc K W (tCons te tr) σ H (d :: ds) := fun H1 e _ q =>
  h H1 e _ fun v H2 e2 f => hr H2 (e.trans e2) _ fun vs H3 e3 g => q (v :: vs) H3 (e2.trans e3) (.cons (dpw_ex e3 f) g)
theorem epc_lst {tr : TA} {ds : List PyData} (hp : Has W H) (h : EvDc K W tr σ H ds) (hl : ds.length ≤ 100000) : EvP (tLst tr) σ H (DPw K W (.list ds)) := fun H1 e _ q =>
  h H1 e _ fun vs H2 e2 g => ⟨sz_of (by rw [dpa_len g]; exact hl), fun a ha => q _ _ (e2.trans (Ex.new ha)) (.lst (sq_of (cw_o upd_same (has_new (has_ex (e.trans e2) hp) ha))) (dpa_ex (cw_mono (Ex.new ha)) _ _ g))⟩
theorem epc_tup {tr : TA} {ds : List PyData} (hp : Has W H) (h : EvDc K W tr σ H ds) (hl : ds.length ≤ 100000) : EvP (tTup tr) σ H (DPw K W (.tuple ds)) := fun H1 e _ q =>
  h H1 e _ fun vs H2 e2 g => ⟨sz_of (by rw [dpa_len g]; exact hl), fun a ha => q _ _ (e2.trans (Ex.new ha)) (.tup (st_of (cw_o upd_same (has_new (has_ex (e.trans e2) hp) ha))) (dpa_ex (cw_mono (Ex.new ha)) _ _ g))⟩
theorem epc_ev {v : V} {d : PyData} (h : Ev te σ H v) (hd : Dp K (Cw W H) v d) : EvP te σ H (DPw K W d) := ep_ev h fun _ e => dp_ex (cw_mono e) _ _ hd
/-! a list of things -/
def EvM (Φ : V → Hp → Prop) (W : Addr → Prop) (te : TE) (σ : L2.St) (H : Hp) (n : Nat) : Prop := ∀ H1, Ex H H1 → ∀ Q : VK, (∀ L vs H2, Ex H1 H2 → H2 L = some (.lst vs) → ¬ W L → vs.length = n → (∀ v ∈ vs, Φ v H2) → Q (.ref L) H2) → te σ H1 Q
theorem em_lst {tr : TA} {n : Nat} (mono : ∀ v H H', Ex H H' → Φ v H → Φ v H') (hp : Has W H) (h : EvW Φ tr σ H n) (hn : n ≤ 1000) : EvM Φ W (tLst tr) σ H n := fun H1 e Q q =>
  h H1 e _ fun vs H2 e2 hl hv => ⟨sz_of (by omega), fun L nL => q L vs _ (e2.trans (Ex.new nL)) upd_same (has_new (has_ex (e.trans e2) hp) nL) hl fun v hv2 => mono _ _ _ (Ex.new nL) (hv v hv2)⟩
theorem em_var {i : Nat} {L : Addr} {vs : List V} (mono : ∀ v H H', Ex H H' → Φ v H → Φ v H') (h : σ[i]? = some (some (.ref L))) (hL : H L = some (.lst vs)) (hp : ¬ W L) (hv : ∀ v ∈ vs, Φ v H) : EvM Φ W (tVar i) σ H vs.length := fun H1 e Q q =>
  ⟨.ref L, h, q L vs H1 (Ex.refl _) (e _ _ hL) hp rfl fun v h2 => mono _ _ _ e (hv v h2)⟩
theorem em_varN {i n : Nat} {L : Addr} {vs : List V} (hn : vs.length = n) (mono : ∀ v H H', Ex H H' → Φ v H → Φ v H') (h : σ[i]? = some (some (.ref L))) (hL : H L = some (.lst vs)) (hp : ¬ W L) (hv : ∀ v ∈ vs, Φ v H) : EvM Φ W (tVar i) σ H n := by
  subst hn
  exact em_var mono h hL hp hv
theorem em_cat {n m : Nat} (mono : ∀ v H H', Ex H H' → Φ v H → Φ v H') (hp : Has W H) (h1 : EvM Φ W ta σ H n) (h2 : EvM Φ W tb σ H m) (hn : n + m ≤ 1000) : EvM Φ W (tOp rCat ta tb) σ H (n + m) := fun H1 e Q q =>
  h1 H1 e _ fun L vs H2 e2 hL _ l1 v1 => h2 H2 (e.trans e2) _ fun M ws H3 e3 hM _ l2 v2 => ⟨L, M, vs, ws, rfl, rfl, e3 _ _ hL, hM, sz_of (by omega), fun R nR =>
    q R (vs ++ ws) _ ((e2.trans e3).trans (Ex.new nR)) upd_same (has_new (has_ex ((e.trans e2).trans e3) hp) nR) (by rw [List.length_append, l1, l2]) fun v hv => by
      rcases List.mem_append.mp hv with hv | hv
      · exact mono _ _ _ (e3.trans (Ex.new nR)) (v1 v hv)
      · exact mono _ _ _ (Ex.new nR) (v2 v hv)⟩
theorem menuM {E : XK} {q0 : Addr} {n ip : Nat} (hσ : σ[ip]? = some (some (.ref p))) (hM : EvM Φ W te σ H n) (hn : 0 < n) (hn2 : n ≤ 1000) (x : PW W H p q0) (mono : ∀ v H H', Oth p H H' → Φ v H → Φ v H') {Q : VK} (k : ∀ v H', Oth p H H' → PW W H' p q0 → Φ v H' → Q v H') :
    tOp (rIxL K) te (tCall spDraw [] E (tCons (tVar ip) (tCons (tC (.int (n : Int))) tNil))) σ H Q := by
  refine hM H (Ex.refl H) _ fun L vs H2 e2 hL hLp hl hv => ?_
  have x2 := x.ex e2
  refine ⟨.ref p, hσ, p, q0, (n : Int), rfl, by omega, by rw [Int.natAbs_natCast]; exact Nat.lt_of_le_of_lt hn2 (by decide), x2.pool, fun r H3 r0 rn o3 x3p => ?_⟩
  have x3 := x2.oth o3 x3p
  have hLp : L ≠ p := fun z => hLp (z ▸ x.wp)
  have hr : r.toNat < vs.length := by omega
  refine ⟨L, vs, r, vs[r.toNat], rfl, rfl, sq_of (o3 _ _ hLp hL), at_of (j := r.toNat) (by omega) (List.getElem?_eq_getElem hr), ?_⟩
  exact k _ H3 ((Oth.of e2).trans o3) x3 (mono _ _ _ o3 (hv _ (List.getElem_mem hr)))
theorem el_catL {xs ys : List V} (h1 : EvL ta σ H xs) (h2 : EvL tb σ H ys) (hl : xs.length + ys.length ≤ 100000) : EvL (tOp rCat ta tb) σ H (xs ++ ys) := fun H1 e Q q =>
  h1 H1 e _ fun L H2 nL e2 hL => h2 H2 (e.trans e2) _ fun M H3 nM e3 hM => ⟨L, M, xs, ys, rfl, rfl, e3 _ _ hL, hM, sz_of hl, fun R nR => q R _ (fresh_back (e2.trans e3) nR) ((e2.trans e3).trans (Ex.new nR)) upd_same⟩
theorem el_catV {i : Nat} {L : Addr} {xs ys : List V} (h : σ[i]? = some (some (.ref L))) (hL : H L = some (.lst xs)) (h2 : EvL tb σ H ys) (hl : xs.length + ys.length ≤ 100000) : EvL (tOp rCat (tVar i) tb) σ H (xs ++ ys) := fun H1 e Q q =>
  ⟨.ref L, h, h2 H1 e _ fun M H3 nM e3 hM => ⟨L, M, xs, ys, rfl, rfl, e3 _ _ (e _ _ hL), hM, sz_of hl, fun R nR => q R _ (fresh_back e3 nR) (e3.trans (Ex.new nR)) upd_same⟩⟩
theorem dpa_appJ : ∀ {xs ys : List V} {ds es : List PyData}, DpAll K H xs ds → DpAll K H ys es → DpAll K H (xs ++ ys) (ds ++ es)
  | _, _, _, _, .nil, h => h
  | _, _, _, _, .cons a b, h => .cons a (dpa_appJ b h)
theorem epc_elD {xs : List V} {ds : List PyData} (hp : Has W H) (h : EvL te σ H xs) (hd : ∀ H : Hp, DpAll K H xs ds) : EvP te σ H (DPw K W (.list ds)) := fun H1 e Q q =>
  h H1 e _ fun L H2 nL e2 hL => q _ _ e2 (.lst (sq_of (cw_o hL (has_new (has_ex e hp) nL))) (hd _))
theorem ep_rowT {i : Nat} {R : Addr} {zs : List Int} (hp : Has W H) (h : σ[i]? = some (some (.ref R))) (hR : H R = some (.lst (zs.map V.int))) : EvP (tCB (fun xs H Q => ∃ p ys, xs = [.ref p] ∧ ((SqL K H p ys ∧ ∀ l, H l = none → Q (.ref l) (upd H l (.tup ys))) ∨ (SqT K H p ys ∧ Q (.ref p) H))) (tCons (tVar i) tNil)) σ H (DPw K W (.tuple (zs.map PyData.int))) := fun H1 e Q q =>
  ⟨.ref R, h, R, _, rfl, .inl ⟨sq_of (e _ _ hR), fun T nT => q _ _ (Ex.new nT) (.tup (st_of (cw_o upd_same (has_new (has_ex e hp) nT))) (dpa_ints zs))⟩⟩
end
abbrev s_law_board : Stmt := topS 53
theorem sc_law_board : FnScope ["pool", "cells", "k"] ["pool", "cells"] (defScope s_law_board) := ⟨rfl, rfl, rfl, by decide +kernel, rfl, by decide +kernel, by decide +kernel⟩
section
variable {P : Program} {w : World} {K : PySem.W.Frag} {mg : Str → Option Value} {base : Heap}
theorem tupOf_run {te : TE} {σ : L2.St} {H : Hp} {Q : VK} (h : te σ H fun v H1 => ∃ p ys, [v] = [V.ref p] ∧ ((SqL K H1 p ys ∧ ∀ l, H1 l = none → Q (.ref l) (upd H1 l (.tup ys))) ∨ (SqT K H1 p ys ∧ Q (.ref p) H1))) : tCB (fun xs H Q => ∃ p ys, xs = [V.ref p] ∧ ((SqL K H p ys ∧ ∀ l, H l = none → Q (.ref l) (upd H l (.tup ys))) ∨ (SqT K H p ys ∧ Q (.ref p) H))) (tCons te tNil) σ H Q := h
def spLBd : Sp := fun vs H Q _ => ∃ (p q : Addr) (c : Nat), vs = [.ref p, .int (c : Int)] ∧ c ≤ 3 ∧ Pool H p q ∧ ∀ (b : List Int) (T : Addr) (H' : Hp), b.length = c → (∀ z ∈ b, z.natAbs < 2 ^ 170) → H T = none → Oth p H H' → Pool H' p q → H' T = some (.tup (b.map V.int)) → Q (.ref T) H'
theorem ok_lboard {f : Addr} {fd : FuncData} {k : Nat} (F : Fun K "_law_board" "_law_board" s_law_board f fd) (z_range : mg "range" = none) (z_tuple : mg "tuple" = none) (C_law_number : Cal P w K mg base 2 "_law_number" spNumber []) (hk : 2 ≤ k) :
    FnOk P w K mg base CX0 (k + 1) f fd ["pool", "cells"] spLBd := by
  have sc := sc_law_board
  refine F.ok sc (fun vs H Q E h => ?_) (fun cdv A outer s H vs Q E hr h => ?_)
  · obtain ⟨p, q0, c, rfl, _⟩ := h
    rfl
  · obtain ⟨p, q0, c, rfl, c3, x, q⟩ := h
    refine ⟨_, (pss_one (ps_ret (pe_callTy call_tuple_of (by rfl) z_tuple (by decide +kernel) (pa_cons (pe_lc (own := [("k", 2)]) (by rfl) sc.nd (pi_range1 (by rfl) z_range (pa_cons (pv 1) pa_nil)) (blkOk_by (own := [("k", 2)]) (N := ["pool", "cells", "k"]) (sc := defScope s_law_board) (by decide +kernel)) (fun _ _ _ _ _ => (pg_name (i := 2) sc.nd rfl (by first | exact Or.inl rfl | exact Or.inr rfl))) (fun _ _ _ _ _ => pts_nil) (fun _ _ _ _ _ => (pe_c C_law_number hr (by omega) (by rfl) (pa_cons (pv 0) pa_nil)))) pa_nil)))), ?_⟩
    refine s_retR (tupOf_run (dw_rng (n := c) (good := fun z => z.natAbs < 2 ^ 170) (p := p) (q := q0) (fun H1 => ea_cons (ev_var rfl) ea_nil) (by omega) (fun _ => rfl) (fun i hi H1 x1 Q' q' => ⟨.ref p, rfl, p, q0, rfl, x1, fun r H2 hb o x2 => q' r H2 hb o x2⟩) x fun ns D H2 hl hg hD o2 x2 h2 => ?_))
    refine ⟨D, ns.map V.int, rfl, .inl ⟨sq_of h2, fun T hT => ?_⟩⟩
    have eT := Ex.new (o := .tup (ns.map V.int)) hT
    exact q ns T _ hl hg (new_back o2 x2.isP hT) (o2.trans (.of eT)) (x2.ex eT) upd_same
end
/-! ### calls with keywords under try -/
section
variable {X : Cx} {CX : CXT} {k n : Nat} {f : Addr} {fd : FuncData} {ps ks : List Str} {sp : Sp} {E : L2.St → XK} {x : Str} {p pos : Pos} {e : Expr} {es : List Expr} {kws : List Keyword} {t tk : TA} {g : List Value → List Value → List Value} {gV : List V → List V → List V}
def tCallNS (n m : Nat) (sp : Sp) (gV : List V → List V → List V) (E : L2.St → XK) (t tk : TA) : TE := fun σ H Q => t σ H fun vs H1 => tk σ H1 fun zs H2 => vs.length = n ∧ zs.length = m ∧ sp (gV vs zs) H2 Q (E σ)
theorem run_fnNS {pins : List (Addr × Obj)} {σ : L2.St} {H : Hp} {s : Shared} {Q : VK} {us ws : List Value} {vs zs : List V} {E : XK} (F : FnOk X.prog X.w X.K X.mg X.base CX k f fd ps sp) (hr : Room k X.A) (hb : KBn X.K fd ps n ks g gV) (hx : PassesAt CX X σ E)
    (I : Inv X pins σ H s) (r : Vals vs us) (rz : Vals zs ws) (l1 : vs.length = n) (l2 : zs.length = ks.length) (h : sp (gV vs zs) H Q E) : wpAny (model X.prog X.w) X.A (call (.ref f) us (ks.zip ws)) (EP X pins σ Q) X.xe s := by
  have r2 := hb.rel r rz
  refine wpAny_call (codeAny_mono (F.run X.A X.stack s H ⟨us, ks.zip ws⟩ (g us ws) (gV vs zs) Q E hr I.env0 (hb.to s us ws I.kIn (r.length.symm.trans l1) (rz.length.symm.trans l2)) r2 h) fun r s' hq => ?_)
  cases r with
  | error e => exact hx pins H s e s' I hq
  | ok fl =>
    cases fl with
    | ret u => exact I.after hq
    | next => exact False.elim hq
    | brk => exact False.elim hq
    | cont => exact False.elim hq
/-- f(e, .., k = v, ..) under try -/
theorem pe_callNS (F : FnOk X.prog X.w X.K X.mg X.base CX k f fd ps sp) (hr : Room k X.A) (hg : Gl X x) (hm : X.mg x = some (.ref f)) (hk : PySem.W.keepIn X.K (.ref f) = true) (hb : KBn X.K fd ps n ks g gV) (hx : ∀ σ, PassesAt CX X σ (E σ))
    (ha : PA X (e :: es) t) (hkw : PK X kws tk) (hall : (backToKw pos (keywordEach kws X.env)).all (·.1.isSome) = true := by rfl) (hks : (backToKw pos (keywordEach kws X.env)).filterMap (·.1) = ks := by rfl)
    (hdb : (x == ("__debug__" : Str)) = false := by decide) (he : starEach (e :: es) X.env = (false, eval e X.env) :: starEach es X.env := by rfl)
    (hpl : ((backTo pos (starEach (e :: es) X.env)).any (·.1) || (backToKw pos (keywordEach kws X.env)).any (·.1.isNone)) = false := by rfl) :
    PE X (.Call (.Name x p) (e :: es) kws pos) (tCallNS n ks.length sp gV E t tk) := by
  refine ⟨fun pins s σ H Q I h => ?_⟩
  refine wpAny_Call_Name_kw (ld_glob I hg hm ?_ hdb)
  refine PySem.W.callWith_KW (h₀ := X.base) I.ok.mod.kin hk hall (thn (ha.run pos pins s σ H _ I h) fun us s1 ⟨vs, H1, I1, r, q⟩ => ?_) hpl he
  refine thn (hkw.run pos pins s1 σ H1 _ I1 q) fun ws s2 ⟨zs, H2, I2, rz, l1, l2, q2⟩ => ⟨I2.kIn, ?_⟩
  rw [hks]
  exact run_fnNS F hr hb (hx σ) I2 r rz l1 l2 q2
end
/-! ### more fuel changes nothing -/
section
variable {bits : List Nat} {bo : List (List Stm)}
theorem lxL_fuel {g1 g2 : Stm → Ls → LR} (hg : ∀ x s r, g1 x s = some r → g2 x s = some r) : ∀ (b : List Stm) (s : Ls) (r : Option Nat × Ls), lxL g1 b s = some r → lxL g2 b s = some r
  | [], s, r, h => by rw [lxL] at h ⊢; exact h
  | x :: b, s, r, h => by
    rw [lxL] at h ⊢
    by_cases hz : s.err.isSome = true
    · rw [if_pos hz] at h ⊢; exact h
    · rw [if_neg hz] at h ⊢
      cases hf : g1 x s with
      | none => rw [hf] at h; cases h
      | some res =>
        rw [hg x s res hf]
        rw [hf] at h
        obtain ⟨w, t⟩ := res
        cases w with
        | some w => exact h
        | none => exact lxL_fuel hg b t r h
theorem lxA_fuel {g1 g2 : Ls → LR} (hg : ∀ s r, g1 s = some r → g2 s = some r) : ∀ (n : Nat) (s : Ls) (r : Option Nat × Ls), lxA bits g1 n s = some r → lxA bits g2 n s = some r
  | 0, s, r, h => by rw [lxA] at h ⊢; exact h
  | n + 1, s, r, h => by
    rw [lxA] at h ⊢
    by_cases hz : (bitL bits s).1 = 0
    · rw [if_pos hz] at h ⊢; exact h
    · rw [if_neg hz] at h ⊢
      cases hf : g1 (bitL bits s).2 with
      | none => rw [hf] at h; cases h
      | some res =>
        rw [hg _ res hf]
        rw [hf] at h
        obtain ⟨w, t⟩ := res
        dsimp only at h ⊢
        by_cases hy : w.isSome = true ∨ t.err.isSome = true
        · rw [if_pos hy] at h ⊢; exact h
        · rw [if_neg hy] at h ⊢; exact lxA_fuel hg n t r h
theorem lx_fuel : ∀ (d : Nat) (t : Tk) (s : Ls) (r : Option Nat × Ls), lx bits bo d t s = some r → lx bits bo (d + 1) t s = some r
  | 0, t, s, r, h => by rw [lx] at h; cases h
  | d + 1, .blk b, s, r, h => by
    rw [lx] at h ⊢
    exact lxL_fuel (fun x s r h => lx_fuel d (.one x) s r h) b s r h
  | d + 1, .one x, s, r, h => by
    rw [lx] at h ⊢
    by_cases h5 : 500 < s.cnt + 1
    · rw [if_pos h5] at h ⊢; exact h
    · rw [if_neg h5] at h ⊢
      cases x with
      | set k r => exact h
      | carry r => exact h
      | keep cs b => exact lx_fuel d (.keep cs b) _ r h
      | either a b => rw [lx1] at h ⊢; exact lx_fuel d _ _ r h
      | again b => exact lx_fuel d (.again b) _ r h
      | call p r a b => exact lx_fuel d (.call p r a b) _ _ h
      | fin w => exact h
  | d + 1, .keep cs b, s, r, h => by
    rw [lx] at h ⊢
    cases hf : lx bits bo d (.blk b) s with
    | none => rw [hf] at h; cases h
    | some res => rw [lx_fuel d _ _ res hf]; rw [hf] at h; exact h
  | d + 1, .again b, s, r, h => by
    rw [lx] at h ⊢
    exact lxA_fuel (fun s r h => lx_fuel d (.blk b) s r h) _ s r h
  | d + 1, .call p rr a b, s, r, h => by
    rw [lx] at h ⊢
    cases hf : lx bits bo d (.proc p) { s with load := totL rr s.stand s.load } with
    | none => rw [hf] at h; cases h
    | some res =>
      rw [lx_fuel d _ _ res hf]
      rw [hf] at h
      obtain ⟨w, t⟩ := res
      cases w with
      | none => exact h
      | some w => exact lx_fuel d _ _ r h
  | d + 1, .proc p, s, r, h => by
    rw [lx] at h ⊢
    by_cases hz : (s.begun.getD p []).getLast? = some s.taken
    · rw [if_pos hz] at h ⊢; exact h
    · rw [if_neg hz] at h ⊢
      cases hf : lx bits bo d (.blk (bo.getD p [])) { s with begun := s.begun.set p (s.begun.getD p [] ++ [s.taken]) } with
      | none => rw [hf] at h; cases h
      | some res => rw [lx_fuel d _ _ res hf]; rw [hf] at h; exact h
theorem lx_fuelk {t : Tk} {s : Ls} {r : Option Nat × Ls} {d : Nat} (h : lx bits bo d t s = some r) : ∀ k, lx bits bo (d + k) t s = some r
  | 0 => h
  | k + 1 => lx_fuel _ _ _ _ (lx_fuelk h k)
end
/-! ### the law's own execution without its looking back and without its count -/
section
variable (bits : List Nat) (bo : List (List Stm))
def ix : Nat → Tk → Ls → LR
  | 0, _, _ => none
  | d + 1, .blk b, s => lxL (fun x => ix d (.one x)) b s
  | d + 1, .one x, s => lx1 bits (ix d) x { s with cnt := s.cnt + 1 }
  | d + 1, .keep cs b, s => match ix d (.blk b) s with
    | none => none
    | some (w, s') => some (w, { s' with stand := putL cs s.stand s'.stand, load := s.load })
  | d + 1, .again b, s => lxA bits (ix d (.blk b)) (bits.length + 1) s
  | d + 1, .call p r a b, s => match ix d (.proc p) { s with load := totL r s.stand s.load } with
    | none => none
    | some (none, s') => some (none, { s' with load := s.load })
    | some (some w, s') => ix d (.blk (if w = 0 then a else b)) { s' with load := s.load }
  | d + 1, .proc p, s => match ix d (.blk (bo.getD p [])) { s with begun := s.begun.set p (s.begun.getD p [] ++ [s.taken]) } with
    | none => none
    | some (w, s') => if s'.err.isSome then some (none, { s' with begun := s'.begun.set p (s'.begun.getD p []).dropLast }) else some (some (w.getD 0), { s' with begun := s'.begun.set p (s'.begun.getD p []).dropLast })
end
section
variable {bits : List Nat} {bo : List (List Stm)}
theorem ix_fuel : ∀ (d : Nat) (t : Tk) (s : Ls) (r : Option Nat × Ls), ix bits bo d t s = some r → ix bits bo (d + 1) t s = some r
  | 0, t, s, r, h => by rw [ix] at h; cases h
  | d + 1, .blk b, s, r, h => by
    rw [ix] at h ⊢
    exact lxL_fuel (fun x s r h => ix_fuel d (.one x) s r h) b s r h
  | d + 1, .one x, s, r, h => by
    rw [ix] at h ⊢
    cases x with
    | set k r => exact h
    | carry r => exact h
    | keep cs b => exact ix_fuel d (.keep cs b) _ r h
    | either a b => rw [lx1] at h ⊢; exact ix_fuel d _ _ r h
    | again b => exact ix_fuel d (.again b) _ r h
    | call p r a b => exact ix_fuel d (.call p r a b) _ _ h
    | fin w => exact h
  | d + 1, .keep cs b, s, r, h => by
    rw [ix] at h ⊢
    cases hf : ix bits bo d (.blk b) s with
    | none => rw [hf] at h; cases h
    | some res => rw [ix_fuel d _ _ res hf]; rw [hf] at h; exact h
  | d + 1, .again b, s, r, h => by
    rw [ix] at h ⊢
    exact lxA_fuel (fun s r h => ix_fuel d (.blk b) s r h) _ s r h
  | d + 1, .call p rr a b, s, r, h => by
    rw [ix] at h ⊢
    cases hf : ix bits bo d (.proc p) { s with load := totL rr s.stand s.load } with
    | none => rw [hf] at h; cases h
    | some res =>
      rw [ix_fuel d _ _ res hf]
      rw [hf] at h
      obtain ⟨w, t⟩ := res
      cases w with
      | none => exact h
      | some w => exact ix_fuel d _ _ r h
  | d + 1, .proc p, s, r, h => by
    rw [ix] at h ⊢
    cases hf : ix bits bo d (.blk (bo.getD p [])) { s with begun := s.begun.set p (s.begun.getD p [] ++ [s.taken]) } with
    | none => rw [hf] at h; cases h
    | some res => rw [ix_fuel d _ _ res hf]; rw [hf] at h; exact h
theorem ix_le {t : Tk} {s : Ls} {r : Option Nat × Ls} {d e : Nat} (h : ix bits bo d t s = some r) (hl : d ≤ e) : ix bits bo e t s = some r := by
  obtain ⟨k, rfl⟩ := Nat.exists_eq_add_of_le hl
  clear hl
  induction k with
  | zero => exact h
  | succ k ih => exact ix_fuel _ _ _ _ ih
theorem ix_det {t : Tk} {s : Ls} {r r2 : Option Nat × Ls} {d e : Nat} (h : ix bits bo d t s = some r) (h2 : ix bits bo e t s = some r2) : r = r2 := by
  rcases Nat.le_total d e with hl | hl
  · rw [ix_le h hl] at h2; exact Option.some.inj h2
  · rw [ix_le h2 hl] at h; exact (Option.some.inj h).symm
/-- what was looked back upon, or counted too far -/
def BadE (s : Ls) : Prop := s.err = some .long ∨ s.err = some (.no (-2))
theorem BadE.some {s : Ls} (h : BadE s) : s.err.isSome = true := by rcases h with h | h <;> rw [h] <;> rfl
theorem lxL_ix {g g' : Stm → Ls → LR} (hg : ∀ x s w s', g x s = some (w, s') → ¬BadE s' → g' x s = some (w, s')) : ∀ (b : List Stm) (s : Ls) (w : Option Nat) (s' : Ls), lxL g b s = some (w, s') → ¬BadE s' → lxL g' b s = some (w, s')
  | [], s, w, s', h, _ => by rw [lxL] at h ⊢; exact h
  | x :: r, s, w, s', h, hn => by
    rw [lxL] at h ⊢
    by_cases hz : s.err.isSome = true
    · rw [if_pos hz] at h ⊢; exact h
    · rw [if_neg hz] at h ⊢
      cases hf : g x s with
      | none => rw [hf] at h; cases h
      | some res =>
        obtain ⟨w1, s1⟩ := res
        rw [hf] at h
        cases w1 with
        | some w1 =>
          cases h
          rw [hg x s _ _ hf hn]
        | none =>
          have hn1 : ¬BadE s1 := fun hb => by
            have h : lxL g r s1 = some (w, s') := h
            cases r with
            | nil => rw [lxL] at h; cases h; exact hn hb
            | cons y r => rw [lxL, if_pos hb.some] at h; cases h; exact hn hb
          rw [hg x s _ _ hf hn1]
          exact lxL_ix hg r s1 w s' h hn
theorem lxA_ix {g g' : Ls → LR} (hg : ∀ s w s', g s = some (w, s') → ¬BadE s' → g' s = some (w, s')) : ∀ (n : Nat) (s : Ls) (w : Option Nat) (s' : Ls), lxA bits g n s = some (w, s') → ¬BadE s' → lxA bits g' n s = some (w, s')
  | 0, s, w, s', h, _ => by rw [lxA] at h ⊢; exact h
  | n + 1, s, w, s', h, hn => by
    rw [lxA] at h ⊢
    by_cases hz : (bitL bits s).1 = 0
    · rw [if_pos hz] at h ⊢; exact h
    · rw [if_neg hz] at h ⊢
      cases hf : g (bitL bits s).2 with
      | none => rw [hf] at h; cases h
      | some res =>
        obtain ⟨w1, s1⟩ := res
        rw [hf] at h
        dsimp only at h
        by_cases hy : w1.isSome = true ∨ s1.err.isSome = true
        · rw [if_pos hy] at h
          cases h
          rw [hg _ _ _ hf hn]
          dsimp only
          rw [if_pos hy]
        · rw [if_neg hy] at h
          have hn1 : ¬BadE s1 := fun hb => hy (.inr hb.some)
          rw [hg _ _ _ hf hn1]
          dsimp only
          rw [if_neg hy]
          exact lxA_ix hg n s1 w s' h hn
/-- what ends neither so nor so is found without them -/
theorem ix_lx : ∀ (d : Nat) (t : Tk) (s : Ls) (w : Option Nat) (s' : Ls), lx bits bo d t s = some (w, s') → ¬BadE s' → ix bits bo d t s = some (w, s')
  | 0, t, s, w, s', h, _ => by rw [lx] at h; cases h
  | d + 1, .blk b, s, w, s', h, hn => by
    rw [lx] at h; rw [ix]
    exact lxL_ix (fun x s w s' h hn => ix_lx d (.one x) s w s' h hn) b s w s' h hn
  | d + 1, .one x, s, w, s', h, hn => by
    rw [lx] at h; rw [ix]
    by_cases h5 : 500 < s.cnt + 1
    · rw [if_pos h5] at h
      cases h
      exact absurd (.inl rfl) hn
    · rw [if_neg h5] at h
      cases x with
      | set k r => exact h
      | carry r => exact h
      | keep cs b => exact ix_lx d (.keep cs b) _ w s' h hn
      | either a b => rw [lx1] at h ⊢; exact ix_lx d _ _ w s' h hn
      | again b => exact ix_lx d (.again b) _ w s' h hn
      | call p r a b => exact ix_lx d (.call p r a b) _ w s' h hn
      | fin w1 => exact h
  | d + 1, .keep cs b, s, w, s', h, hn => by
    rw [lx] at h; rw [ix]
    cases hf : lx bits bo d (.blk b) s with
    | none => rw [hf] at h; cases h
    | some res =>
      obtain ⟨w1, s1⟩ := res
      rw [hf] at h
      cases h
      rw [ix_lx d (.blk b) s _ s1 hf hn]
  | d + 1, .again b, s, w, s', h, hn => by
    rw [lx] at h; rw [ix]
    exact lxA_ix (fun s w s' h hn => ix_lx d (.blk b) s w s' h hn) _ s w s' h hn
  | d + 1, .call p rr a b, s, w, s', h, hn => by
    rw [lx] at h; rw [ix]
    cases hf : lx bits bo d (.proc p) { s with load := totL rr s.stand s.load } with
    | none => rw [hf] at h; cases h
    | some res =>
      obtain ⟨w1, s1⟩ := res
      rw [hf] at h
      cases w1 with
      | none =>
        cases h
        rw [ix_lx d (.proc p) _ _ s1 hf hn]
      | some w1 =>
        dsimp only at h
        have hn1 : ¬BadE s1 := fun hb => by
          cases d with
          | zero => rw [lx] at h; cases h
          | succ d =>
            rw [lx] at h
            have hb2 : ({ s1 with load := s.load } : Ls).err.isSome = true := hb.some
            generalize (if w1 = 0 then a else b) = bb at h
            cases bb with
            | nil => rw [lxL] at h; cases h; exact hn hb
            | cons y r => rw [lxL, if_pos hb2] at h; cases h; exact hn hb
        rw [ix_lx d (.proc p) _ _ s1 hf hn1]
        exact ix_lx d _ _ w s' h hn
  | d + 1, .proc p, s, w, s', h, hn => by
    rw [lx] at h; rw [ix]
    by_cases hz : (s.begun.getD p []).getLast? = some s.taken
    · rw [if_pos hz] at h
      cases h
      exact absurd (.inr rfl) hn
    · rw [if_neg hz] at h
      cases hf : lx bits bo d (.blk (bo.getD p [])) { s with begun := s.begun.set p (s.begun.getD p [] ++ [s.taken]) } with
      | none => rw [hf] at h; cases h
      | some res =>
        obtain ⟨w1, s1⟩ := res
        rw [hf] at h
        have hn1 : ¬BadE s1 := fun hb => by
          dsimp only at h
          rw [if_pos hb.some] at h
          cases h
          exact hn hb
        rw [ix_lx d _ _ _ s1 hf hn1]
        exact h
/-! #### what is found depends on the bits taken alone -/
def SameT (s1 s2 : Ls) : Prop := s1.taken = s2.taken ∧ s1.err = s2.err
theorem bit_sameT {s1 s2 : Ls} (h : SameT s1 s2) : (bitL bits s1).1 = (bitL bits s2).1 ∧ SameT (bitL bits s1).2 (bitL bits s2).2 := by
  rw [bitL, bitL, ← h.1]
  split
  · exact ⟨rfl, rfl, rfl⟩
  · exact ⟨rfl, rfl, h.2⟩
theorem lxL_sameT {g : Stm → Ls → LR} (hg : ∀ x s1 s2 w s1', SameT s1 s2 → g x s1 = some (w, s1') → ∃ s2', g x s2 = some (w, s2') ∧ SameT s1' s2') : ∀ (b : List Stm) (s1 s2 : Ls) (w : Option Nat) (s1' : Ls), SameT s1 s2 → lxL g b s1 = some (w, s1') → ∃ s2', lxL g b s2 = some (w, s2') ∧ SameT s1' s2'
  | [], s1, s2, w, s1', h, e => by
    rw [lxL] at e
    cases e
    exact ⟨s2, by rw [lxL], h⟩
  | x :: r, s1, s2, w, s1', h, e => by
    rw [lxL] at e
    by_cases hz : s1.err.isSome = true
    · rw [if_pos hz] at e
      cases e
      exact ⟨s2, by rw [lxL, if_pos (by rw [← h.2]; exact hz)], h⟩
    · rw [if_neg hz] at e
      cases hf : g x s1 with
      | none => rw [hf] at e; cases e
      | some res =>
        obtain ⟨w1, t1⟩ := res
        obtain ⟨t2, h2, k2⟩ := hg x s1 s2 w1 t1 h hf
        rw [hf] at e
        cases w1 with
        | some w1 =>
          cases e
          exact ⟨t2, by rw [lxL, if_neg (by rw [← h.2]; exact hz), h2], k2⟩
        | none =>
          dsimp only at e
          obtain ⟨s2', h3, k3⟩ := lxL_sameT hg r t1 t2 w s1' k2 e
          exact ⟨s2', by rw [lxL, if_neg (by rw [← h.2]; exact hz), h2]; exact h3, k3⟩
theorem lxA_sameT {g : Ls → LR} (hg : ∀ s1 s2 w s1', SameT s1 s2 → g s1 = some (w, s1') → ∃ s2', g s2 = some (w, s2') ∧ SameT s1' s2') : ∀ (n : Nat) (s1 s2 : Ls) (w : Option Nat) (s1' : Ls), SameT s1 s2 → lxA bits g n s1 = some (w, s1') → ∃ s2', lxA bits g n s2 = some (w, s2') ∧ SameT s1' s2'
  | 0, s1, s2, w, s1', h, e => by
    rw [lxA] at e
    cases e
    exact ⟨s2, by rw [lxA], h⟩
  | n + 1, s1, s2, w, s1', h, e => by
    obtain ⟨hb, hs⟩ := bit_sameT (bits := bits) h
    rw [lxA] at e
    by_cases hz : (bitL bits s1).1 = 0
    · rw [if_pos hz] at e
      cases e
      exact ⟨_, by rw [lxA, if_pos (by rw [← hb]; exact hz)], hs⟩
    · rw [if_neg hz] at e
      cases hf : g (bitL bits s1).2 with
      | none => rw [hf] at e; cases e
      | some res =>
        obtain ⟨w1, t1⟩ := res
        obtain ⟨t2, h2, k2⟩ := hg _ _ w1 t1 hs hf
        rw [hf] at e
        dsimp only at e
        by_cases hy : w1.isSome = true ∨ t1.err.isSome = true
        · rw [if_pos hy] at e
          cases e
          exact ⟨t2, by rw [lxA, if_neg (by rw [← hb]; exact hz), h2]; dsimp only; rw [if_pos (by rw [← k2.2]; exact hy)], k2⟩
        · rw [if_neg hy] at e
          obtain ⟨s2', h3, k3⟩ := lxA_sameT hg n t1 t2 w s1' k2 e
          exact ⟨s2', by rw [lxA, if_neg (by rw [← hb]; exact hz), h2]; dsimp only; rw [if_neg (by rw [← k2.2]; exact hy)]; exact h3, k3⟩
theorem ix_same : ∀ (d : Nat) (t : Tk) (s1 s2 : Ls) (w : Option Nat) (s1' : Ls), SameT s1 s2 → ix bits bo d t s1 = some (w, s1') → ∃ s2', ix bits bo d t s2 = some (w, s2') ∧ SameT s1' s2'
  | 0, t, s1, s2, w, s1', _, e => by rw [ix] at e; cases e
  | d + 1, .blk b, s1, s2, w, s1', h, e => by
    rw [ix] at e ⊢
    exact lxL_sameT (fun x s1 s2 w s1' h e => ix_same d (.one x) s1 s2 w s1' h e) b s1 s2 w s1' h e
  | d + 1, .one x, s1, s2, w, s1', h, e => by
    rw [ix] at e ⊢
    have h1 : SameT { s1 with cnt := s1.cnt + 1 } { s2 with cnt := s2.cnt + 1 } := h
    cases x with
    | set k r =>
      cases e
      exact ⟨_, rfl, h⟩
    | carry r =>
      cases e
      exact ⟨_, rfl, h⟩
    | keep cs b => exact ix_same d (.keep cs b) _ _ w s1' h1 e
    | either a b =>
      rw [lx1] at e ⊢
      obtain ⟨hb, hs⟩ := bit_sameT (bits := bits) h1
      rw [← hb]
      exact ix_same d _ _ _ w s1' hs e
    | again b => exact ix_same d (.again b) _ _ w s1' h1 e
    | call p r a b => exact ix_same d (.call p r a b) _ _ w s1' h1 e
    | fin w1 =>
      cases e
      exact ⟨_, rfl, h⟩
  | d + 1, .keep cs b, s1, s2, w, s1', h, e => by
    rw [ix] at e ⊢
    cases hf : ix bits bo d (.blk b) s1 with
    | none => rw [hf] at e; cases e
    | some res =>
      obtain ⟨w1, t1⟩ := res
      obtain ⟨t2, h2, k2⟩ := ix_same d (.blk b) s1 s2 w1 t1 h hf
      rw [hf] at e
      cases e
      rw [h2]
      exact ⟨_, rfl, k2⟩
  | d + 1, .again b, s1, s2, w, s1', h, e => by
    rw [ix] at e ⊢
    exact lxA_sameT (fun s1 s2 w s1' h e => ix_same d (.blk b) s1 s2 w s1' h e) _ s1 s2 w s1' h e
  | d + 1, .call p r a b, s1, s2, w, s1', h, e => by
    rw [ix] at e ⊢
    have h1 : SameT { s1 with load := totL r s1.stand s1.load } { s2 with load := totL r s2.stand s2.load } := h
    cases hf : ix bits bo d (.proc p) { s1 with load := totL r s1.stand s1.load } with
    | none => rw [hf] at e; cases e
    | some res =>
      obtain ⟨w1, t1⟩ := res
      obtain ⟨t2, h2, k2⟩ := ix_same d (.proc p) _ _ w1 t1 h1 hf
      rw [hf] at e
      rw [h2]
      cases w1 with
      | none =>
        cases e
        exact ⟨_, rfl, k2⟩
      | some w2 =>
        dsimp only at e ⊢
        exact ix_same d _ { t1 with load := s1.load } { t2 with load := s2.load } w s1' k2 e
  | d + 1, .proc p, s1, s2, w, s1', h, e => by
    rw [ix] at e ⊢
    cases hf : ix bits bo d (.blk (bo.getD p [])) { s1 with begun := s1.begun.set p (s1.begun.getD p [] ++ [s1.taken]) } with
    | none => rw [hf] at e; cases e
    | some res =>
      obtain ⟨w1, t1⟩ := res
      obtain ⟨t2, h2, k2⟩ := ix_same d (.blk (bo.getD p [])) { s1 with begun := s1.begun.set p (s1.begun.getD p [] ++ [s1.taken]) } { s2 with begun := s2.begun.set p (s2.begun.getD p [] ++ [s2.taken]) } w1 t1 h hf
      rw [hf] at e
      rw [h2]
      dsimp only at e ⊢
      by_cases hy : t1.err.isSome = true
      · rw [if_pos hy] at e
        cases e
        rw [if_pos (by rw [← k2.2]; exact hy)]
        exact ⟨_, rfl, k2⟩
      · rw [if_neg hy] at e
        cases e
        rw [if_neg (by rw [← k2.2]; exact hy)]
        exact ⟨_, rfl, k2⟩
end
/-! #### what was looked back upon goes on for ever -/
section
variable {c m : Nat} {bits : List Nat} {bo : List (List Stm)}
/-- a procedure that had begun begins once more, with no more left than f -/
def Again (bits : List Nat) (bo : List (List Stm)) (s : Ls) (f : Nat) : Prop := ∃ (p u f' : Nat) (s2 : Ls) (r2 : Option Nat × Ls), (s.begun.getD p []).getLast? = some u ∧ f' ≤ f ∧ s2.taken = u ∧ s2.err = none ∧ ix bits bo f' (.proc p) s2 = some r2
theorem Again.le {s s1 : Ls} {f g : Nat} (h : Again bits bo s f) (hl : f ≤ g) (hb : s.begun = s1.begun) : Again bits bo s1 g := by
  obtain ⟨p, u, f', s2, r2, h1, h2, h3⟩ := h
  exact ⟨p, u, f', s2, r2, by rw [← hb]; exact h1, Nat.le_trans h2 hl, h3⟩
def M2 (s : Ls) : Prop := s.err = some (.no (-2))
theorem M2.ne {s : Ls} (h : M2 s) : ¬s.err = none := fun z => by rw [M2, z] at h; cases h
theorem notBad {s : Ls} (h : s.err = none) : ¬BadE s := fun z => by rcases z with z | z <;> rw [h] at z <;> cases z
theorem lxL_step {g : Stm → Ls → LR} {x : Stm} {r : List Stm} {s : Ls} {z : Option Nat × Ls} (hs : s.err = none) (h : lxL g (x :: r) s = some z) : ∃ r1, g x s = some r1 ∧ (∀ s1, r1 = (none, s1) → lxL g r s1 = some z) := by
  rw [lxL, if_neg (not_some hs)] at h
  cases hf : g x s with
  | none => rw [hf] at h; cases h
  | some r1 =>
    rw [hf] at h
    obtain ⟨w1, s1⟩ := r1
    cases w1 with
    | none => exact ⟨_, rfl, fun s2 e => by cases e; exact h⟩
    | some w1 => exact ⟨_, rfl, fun s2 e => by cases e⟩
theorem div_list {d : Nat} (hbo : ∀ b ∈ bo, ∃ lv, okL c m b lv) (hm : bo.length = m) (hc : c ≤ 3) {lv : Nat}
    (ih : ∀ (x : Stm) (s : Ls) (w : Option Nat) (s' : Ls), okS c m x lv → LOk c bits m s → s.err = none → lx bits bo d (.one x) s = some (w, s') → M2 s' → ∀ (f : Nat) (r : Option Nat × Ls), ix bits bo f (.one x) s = some r → Again bits bo s f) :
    ∀ (b : List Stm) (s : Ls) (w : Option Nat) (s' : Ls), okL c m b lv → LOk c bits m s → s.err = none → lxL (fun x => lx bits bo d (.one x)) b s = some (w, s') → M2 s' → ∀ (f : Nat) (r : Option Nat × Ls), lxL (fun x => ix bits bo f (.one x)) b s = some r → Again bits bo s f
  | [], s, w, s', _, _, hs, h, h2, f, r, _ => by
    rw [lxL] at h
    cases h
    exact absurd hs h2.ne
  | x :: b, s, w, s', hok, ho, hs, h, h2, f, r, hx => by
    rw [okL] at hok
    obtain ⟨⟨w1, s1⟩, h3, h4⟩ := lxL_step hs h
    obtain ⟨r1, g3, g4⟩ := lxL_step hs hx
    rw [lxL, if_neg (not_some hs)] at h
    have h3' : lx bits bo d (.one x) s = some (w1, s1) := h3
    by_cases hm2 : M2 s1
    · exact ih x s w1 s1 hok.1 ho hs h3' hm2 f r1 g3
    · cases w1 with
      | some w1 =>
        rw [h3'] at h
        cases h
        exact absurd h2 hm2
      | none =>
        have h5 := h4 s1 rfl
        have hn : s1.err = none := by
          by_cases hz : s1.err.isSome = true
          · cases b with
            | nil => rw [lxL] at h5; cases h5; exact absurd h2 hm2
            | cons y t => rw [lxL, if_pos hz] at h5; cases h5; exact absurd h2 hm2
          · cases he : s1.err with
            | none => rfl
            | some e => rw [he] at hz; exact absurd rfl hz
        have K1 := lx_keep hbo hm hc d (.one x) s none s1 ⟨lv, hok.1⟩ ho h3'
        have e1 := ix_det (ix_lx d (.one x) s none s1 h3' (notBad hn)) g3
        exact (div_list hbo hm hc ih b s1 w s' hok.2 K1.ok hn h5 h2 f r (g4 s1 e1.symm)).le (Nat.le_refl _) K1.bg
theorem div_again {d : Nat} {b : List Stm} (hbo : ∀ b ∈ bo, ∃ lv, okL c m b lv) (hm : bo.length = m) (hc : c ≤ 3) (hb : ∃ lv, okL c m b lv)
    (ih : ∀ (s : Ls) (w : Option Nat) (s' : Ls), LOk c bits m s → s.err = none → lx bits bo d (.blk b) s = some (w, s') → M2 s' → ∀ (f : Nat) (r : Option Nat × Ls), ix bits bo f (.blk b) s = some r → Again bits bo s f) :
    ∀ (n : Nat) (s : Ls) (w : Option Nat) (s' : Ls), LOk c bits m s → s.err = none → lxA bits (lx bits bo d (.blk b)) n s = some (w, s') → M2 s' → ∀ (f : Nat) (r : Option Nat × Ls), lxA bits (ix bits bo f (.blk b)) n s = some r → Again bits bo s f
  | 0, s, w, s', _, hs, h, h2, f, r, _ => by
    rw [lxA] at h
    cases h
    exact absurd hs h2.ne
  | n + 1, s, w, s', ho, hs, h, h2, f, r, hx => by
    rw [lxA] at h hx
    have k0 := bit_keep (bits := bits) ho
    by_cases hz : (bitL bits s).1 = 0
    · rw [if_pos hz] at h
      cases h
      exfalso
      rw [M2, bitL] at h2
      split at h2
      · have : (LEr.no (bits.length : Int)) = .no (-2) := Option.some.inj h2
        have := LEr.no.inj this
        omega
      · exact M2.ne (s := s) h2 hs
    · rw [if_neg hz] at h hx
      have hs0 : (bitL bits s).2.err = none := by
        rw [bitL] at hz ⊢
        split
        · rename_i hl
          rw [if_pos hl] at hz
          exact absurd rfl hz
        · exact hs
      cases hf : lx bits bo d (.blk b) (bitL bits s).2 with
      | none => rw [hf] at h; cases h
      | some res =>
        obtain ⟨w1, s1⟩ := res
        rw [hf] at h
        cases hg : ix bits bo f (.blk b) (bitL bits s).2 with
        | none => rw [hg] at hx; cases hx
        | some r1 =>
          rw [hg] at hx
          by_cases hm2 : M2 s1
          · exact (ih _ w1 s1 k0.ok hs0 hf hm2 f r1 hg).le (Nat.le_refl _) k0.bg
          · dsimp only at h
            by_cases hy : w1.isSome = true ∨ s1.err.isSome = true
            · rw [if_pos hy] at h
              cases h
              exact absurd h2 hm2
            · rw [if_neg hy] at h
              have hn : s1.err = none := by
                cases he : s1.err with
                | none => rfl
                | some e => exact absurd (.inr (by rw [he]; rfl)) hy
              have e1 := ix_det (ix_lx d (.blk b) _ w1 s1 hf (notBad hn)) hg
              subst e1
              dsimp only at hx
              rw [if_neg hy] at hx
              have K1 := k0.trans (lx_keep hbo hm hc d (.blk b) _ w1 s1 hb k0.ok hf)
              exact (div_again hbo hm hc hb ih n s1 w s' K1.ok hn h h2 f r hx).le (Nat.le_refl _) K1.bg
theorem ix_div (hbo : ∀ b ∈ bo, ∃ lv, okL c m b lv) (hm : bo.length = m) (hc : c ≤ 3) : ∀ (d : Nat) (t : Tk) (s : Ls) (w : Option Nat) (s' : Ls), TkOk c m t → LOk c bits m s → s.err = none → lx bits bo d t s = some (w, s') → M2 s' → ∀ (f : Nat) (r : Option Nat × Ls), ix bits bo f t s = some r → Again bits bo s f
  | _, _, s, _, _, _, _, _, _, _, 0, r, hx => by rw [ix] at hx; cases hx
  | 0, t, s, w, s', _, _, _, h, _, _, _, _ => by rw [lx] at h; cases h
  | d + 1, .blk b, s, w, s', ⟨lv, hb⟩, ho, hs, h, h2, f + 1, r, hx => by
    rw [lx] at h
    rw [ix] at hx
    exact (div_list hbo hm hc (fun x s w s' hx ho hs h h2 f r hr => ix_div hbo hm hc d (.one x) s w s' ⟨lv, hx⟩ ho hs h h2 f r hr) b s w s' hb ho hs h h2 f r hx).le (Nat.le_succ _) rfl
  | d + 1, .one x, s, w, s', ⟨lv, hok⟩, ho, hs, h, h2, f + 1, r, hx => by
    rw [lx] at h
    rw [ix] at hx
    have h1 : LOk c bits m { s with cnt := s.cnt + 1 } := ho.of rfl
    by_cases h5 : 500 < s.cnt + 1
    · rw [if_pos h5] at h
      cases h
      exact absurd h2 (by intro z; cases z)
    · rw [if_neg h5] at h
      cases x with
      | set k r => cases h; exact absurd hs h2.ne
      | carry r => cases h; exact absurd hs h2.ne
      | keep cs b =>
        rw [okS] at hok
        exact (ix_div hbo hm hc d (.keep cs b) _ w s' ⟨hok.2.1.2, by have := asc_len hok.2.1; omega, _, hok.2.2.2⟩ h1 hs h h2 f r hx).le (Nat.le_succ _) rfl
      | either a b =>
        rw [okS] at hok
        rw [lx1] at h hx
        have k2 := bit_keep (bits := bits) h1
        have hab : ∃ lv, okL c m (if (bitL bits { s with cnt := s.cnt + 1 }).1 = 0 then a else b) lv := by
          split
          · exact ⟨_, hok.2.2.1⟩
          · exact ⟨_, hok.2.2.2.2⟩
        by_cases hl : bits.length ≤ s.taken
        · exfalso
          have e : (bitL bits { s with cnt := s.cnt + 1 }).2.err = some (.no (bits.length : Int)) := by rw [bitL, if_pos hl]
          have hz := lx_blk_err (by rw [e]; rfl) h
          obtain ⟨_, rfl⟩ := hz
          rw [M2, e] at h2
          have := LEr.no.inj (Option.some.inj h2)
          omega
        · have e : (bitL bits { s with cnt := s.cnt + 1 }).2.err = none := by rw [bitL, if_neg hl]; exact hs
          exact (ix_div hbo hm hc d (.blk _) _ w s' hab k2.ok e h h2 f r hx).le (Nat.le_succ _) k2.bg
      | again b =>
        rw [okS] at hok
        exact (ix_div hbo hm hc d (.again b) _ w s' ⟨_, hok.2.2⟩ h1 hs h h2 f r hx).le (Nat.le_succ _) rfl
      | call p r a b =>
        rw [okS] at hok
        exact (ix_div hbo hm hc d (.call p r a b) _ w s' ⟨hok.2.1, hok.2.2.1, ⟨_, hok.2.2.2.2.1⟩, ⟨_, hok.2.2.2.2.2.2⟩⟩ h1 hs h h2 f _ hx).le (Nat.le_succ _) rfl
      | fin w1 => cases h; exact absurd hs h2.ne
  | d + 1, .keep cs b, s, w, s', ⟨_, _, hb⟩, ho, hs, h, h2, f + 1, r, hx => by
    rw [lx] at h
    rw [ix] at hx
    cases hf : lx bits bo d (.blk b) s with
    | none => rw [hf] at h; cases h
    | some res =>
      obtain ⟨w1, s1⟩ := res
      rw [hf] at h
      cases h
      cases hg : ix bits bo f (.blk b) s with
      | none => rw [hg] at hx; cases hx
      | some r1 => exact (ix_div hbo hm hc d (.blk b) s _ s1 hb ho hs hf h2 f r1 hg).le (Nat.le_succ _) rfl
  | d + 1, .again b, s, w, s', hb, ho, hs, h, h2, f + 1, r, hx => by
    rw [lx] at h
    rw [ix] at hx
    exact (div_again hbo hm hc hb (fun s w s' ho hs h h2 f r hr => ix_div hbo hm hc d (.blk b) s w s' hb ho hs h h2 f r hr) _ s w s' ho hs h h2 f r hx).le (Nat.le_succ _) rfl
  | d + 1, .call p rr a b, s, w, s', ⟨hp, hr, ha, hb⟩, ho, hs, h, h2, f + 1, r, hx => by
    rw [lx] at h
    rw [ix] at hx
    have h0 : LOk c bits m { s with load := totL rr s.stand s.load } := ho.of rfl
    cases hf : lx bits bo d (.proc p) { s with load := totL rr s.stand s.load } with
    | none => rw [hf] at h; cases h
    | some res =>
      obtain ⟨w1, s1⟩ := res
      rw [hf] at h
      cases hg : ix bits bo f (.proc p) { s with load := totL rr s.stand s.load } with
      | none => rw [hg] at hx; cases hx
      | some r1 =>
        rw [hg] at hx
        by_cases hm2 : M2 s1
        · exact (ix_div hbo hm hc d (.proc p) _ w1 s1 hp h0 hs hf hm2 f r1 hg).le (Nat.le_succ _) rfl
        · cases w1 with
          | none => cases h; exact absurd h2 hm2
          | some w1 =>
            dsimp only at h
            have hab : ∃ lv, okL c m (if w1 = 0 then a else b) lv := by
              split
              · exact ha
              · exact hb
            have hn : s1.err = none := by
              cases he : s1.err with
              | none => rfl
              | some e =>
                exfalso
                have hz := lx_blk_err (s := { s1 with load := s.load }) (by show s1.err.isSome = true; rw [he]; rfl) h
                obtain ⟨_, rfl⟩ := hz
                exact hm2 h2
            have e1 := ix_det (ix_lx d (.proc p) _ (some w1) s1 hf (notBad hn)) hg
            subst e1
            dsimp only at hx
            have K1 := lx_keep hbo hm hc d (.proc p) _ _ s1 hp h0 hf
            exact (ix_div hbo hm hc d (.blk _) { s1 with load := s.load } w s' hab (K1.ok.of rfl) hn h h2 f r hx).le (Nat.le_succ _) K1.bg
  | d + 1, .proc q, s, w, s', hp, ho, hs, h, h2, f + 1, r, hx => by
    rw [lx] at h
    have hp : q < m := hp
    by_cases hz : (s.begun.getD q []).getLast? = some s.taken
    · exact ⟨q, s.taken, f + 1, s, r, hz, Nat.le_refl _, rfl, hs, hx⟩
    · rw [if_neg hz] at h
      have hbp : ∃ lv, okL c m (bo.getD q []) lv := by
        rw [List.getD_eq_getElem?_getD, List.getElem?_eq_getElem (by omega)]
        exact hbo _ (List.getElem_mem _)
      have h0 : LOk c bits m { s with begun := s.begun.set q (s.begun.getD q [] ++ [s.taken]) } := proc_ok0 ho hp hz
      cases hf : lx bits bo d (.blk (bo.getD q [])) { s with begun := s.begun.set q (s.begun.getD q [] ++ [s.taken]) } with
      | none => rw [hf] at h; cases h
      | some res =>
        obtain ⟨w1, s1⟩ := res
        rw [hf] at h
        have hm2 : M2 s1 := by
          dsimp only at h
          by_cases hy : s1.err.isSome = true
          · rw [if_pos hy] at h; cases h; exact h2
          · rw [if_neg hy] at h
            cases h
            exact absurd (by rw [show s1.err = some (.no (-2)) from h2]; rfl) hy
        have step : ∀ (g : Nat) (r : Option Nat × Ls), ix bits bo g (.proc q) s = some r → Again bits bo s g := fun g => by
          induction g using Nat.strongRecOn with
          | ind g ih =>
            intro r hr
            cases g with
            | zero => rw [ix] at hr; cases hr
            | succ g =>
              rw [ix] at hr
              cases hg : ix bits bo g (.blk (bo.getD q [])) { s with begun := s.begun.set q (s.begun.getD q [] ++ [s.taken]) } with
              | none => rw [hg] at hr; cases hr
              | some r1 =>
                obtain ⟨p, u, f', s2, r2, hu, hle, ht, he, hx2⟩ := ix_div hbo hm hc d (.blk _) _ w1 s1 hbp h0 hs hf hm2 g r1 hg
                have hu2 : ((s.begun.set q (s.begun.getD q [] ++ [s.taken])).getD p []).getLast? = some u := hu
                rw [getD_set _ _ _ _ _ (by rw [ho.bl]; exact hp)] at hu2
                by_cases hpq : p = q
                · subst hpq
                  rw [if_pos rfl, List.getLast?_concat] at hu2
                  cases hu2
                  obtain ⟨s3, h3, _⟩ := ix_same f' (.proc p) s2 s r2.1 r2.2 ⟨ht, he.trans hs.symm⟩ hx2
                  exact (ih f' (by omega) _ h3).le (by omega) rfl
                · rw [if_neg hpq] at hu2
                  exact ⟨p, u, f', s2, r2, hu2, by omega, ht, he, hx2⟩
        exact step (f + 1) r hx
/-- a list of bits that goes on for ever without one -/
theorem ix_never {d p : Nat} {v : List Int} {l : Int} {w : Option Nat} {s' : Ls} (hbo : ∀ b ∈ bo, ∃ lv, okL c m b lv) (hm : bo.length = m) (hc : c ≤ 3) (hp : p < m) (hv : v.length = c) (e : lx bits bo d (.proc p) (ls0 bo v l) = some (w, s')) (h2 : M2 s') (f : Nat) : ix bits bo f (.proc p) (ls0 bo v l) = none := by
  cases hx : ix bits bo f (.proc p) (ls0 bo v l) with
  | none => rfl
  | some r =>
    obtain ⟨q, u, _, _, _, h1, _⟩ := ix_div hbo hm hc d (.proc p) _ w s' hp (by rw [← hm]; exact ls0_ok hv) rfl e h2 f r hx
    rw [show (ls0 bo v l).begun.getD q [] = [] from ini_get q] at h1
    cases h1
end
/-! ### a call set in: the same without looking back -/
section
variable {bits : List Nat}
theorem lxL_stop {g : Stm → Ls → LR} {b : List Stm} {s : Ls} (h : s.err.isSome = true) : lxL g b s = some (none, s) := by
  cases b with
  | nil => rw [lxL]
  | cons x r => rw [lxL, if_pos h]
theorem lxL_app9 {g : Stm → Ls → LR} : ∀ (a b : List Stm) (s : Ls), lxL g (a ++ b) s = (match lxL g a s with
    | none => none
    | some (some w, s1) => some (some w, s1)
    | some (none, s1) => lxL g b s1)
  | [], b, s => by rw [List.nil_append, lxL]
  | x :: a, b, s => by
    rw [List.cons_append, lxL, lxL]
    by_cases hz : s.err.isSome = true
    · rw [if_pos hz, if_pos hz]
      exact (lxL_stop hz).symm
    · rw [if_neg hz, if_neg hz]
      cases hf : g x s with
      | none => rfl
      | some res =>
        obtain ⟨w1, s1⟩ := res
        cases w1 with
        | some w1 => rfl
        | none => exact lxL_app9 a b s1
/-- it is found with some fuel -/
def Bx (bits : List Nat) (bo : List (List Stm)) (t : Tk) (s : Ls) (r : Option Nat × Ls) : Prop := ∃ d, ix bits bo d t s = some r
variable {bo : List (List Stm)}
theorem bx_stop {b : List Stm} {s : Ls} (h : s.err.isSome = true) : Bx bits bo (.blk b) s (none, s) := ⟨1, by rw [ix]; exact lxL_stop h⟩
theorem bx_nil {s : Ls} : Bx bits bo (.blk []) s (none, s) := ⟨1, by rw [ix, lxL]⟩
theorem bx_appW {a b : List Stm} {s s1 : Ls} {w : Nat} (h : Bx bits bo (.blk a) s (some w, s1)) : Bx bits bo (.blk (a ++ b)) s (some w, s1) := by
  obtain ⟨d, h⟩ := h
  cases d with
  | zero => rw [ix] at h; cases h
  | succ d => exact ⟨d + 1, by rw [ix] at h ⊢; rw [lxL_app9, h]⟩
theorem bx_appN {a b : List Stm} {s s1 : Ls} {r : Option Nat × Ls} (h : Bx bits bo (.blk a) s (none, s1)) (h2 : Bx bits bo (.blk b) s1 r) : Bx bits bo (.blk (a ++ b)) s r := by
  obtain ⟨d, h⟩ := h
  obtain ⟨e, h2⟩ := h2
  have g1 := ix_le h (Nat.le_succ_of_le (Nat.le_max_left d e))
  have g2 := ix_le h2 (Nat.le_succ_of_le (Nat.le_max_right d e))
  exact ⟨max d e + 1, by rw [ix] at g1 g2 ⊢; rw [lxL_app9, g1]; exact g2⟩
theorem bx_one {x : Stm} {s : Ls} {r : Option Nat × Ls} (hs : s.err = none) (h : Bx bits bo (.one x) s r) : Bx bits bo (.blk [x]) s r := by
  obtain ⟨d, h⟩ := h
  refine ⟨d + 1, ?_⟩
  rw [ix, lxL, if_neg (not_some hs), h]
  obtain ⟨w, s1⟩ := r
  cases w with
  | some w => rfl
  | none => dsimp only; rw [lxL]
/-- what both have in common -/
structure RQ (Q : Nat → Nat → Prop) (s s' : Ls) : Prop where
  tk : s.taken = s'.taken
  st : s.stand = s'.stand
  ld : s.load = s'.load
  er : s.err = s'.err
  ln : Q s.len s'.len
variable {Q : Nat → Nat → Prop} {bo' : List (List Stm)}
theorem bit_rq {s s' : Ls} (h : RQ Q s s') : (bitL bits s).1 = (bitL bits s').1 ∧ RQ Q (bitL bits s).2 (bitL bits s').2 := by
  rw [bitL, bitL, ← h.tk]
  split
  · exact ⟨rfl, rfl, h.st, h.ld, rfl, h.ln⟩
  · exact ⟨rfl, rfl, h.st, h.ld, h.er, h.ln⟩
def SimR (bits : List Nat) (bo bo' : List (List Stm)) (Q : Nat → Nat → Prop) (d : Nat) : Prop := ∀ (t : Tk) (s s' : Ls) (w : Option Nat) (s1 : Ls), RQ Q s s' → ix bits bo d t s = some (w, s1) → ∃ s1', Bx bits bo' t s' (w, s1') ∧ RQ Q s1 s1'
theorem simL9 {d : Nat} (hd : SimR bits bo bo' Q d) : ∀ (b : List Stm) (s s' : Ls) (w : Option Nat) (s1 : Ls), RQ Q s s' → lxL (fun x => ix bits bo d (.one x)) b s = some (w, s1) → ∃ s1', Bx bits bo' (.blk b) s' (w, s1') ∧ RQ Q s1 s1'
  | [], s, s', w, s1, h, e => by
    rw [lxL] at e
    cases e
    exact ⟨s', bx_nil, h⟩
  | x :: r, s, s', w, s1, h, e => by
    rw [lxL] at e
    by_cases hz : s.err.isSome = true
    · rw [if_pos hz] at e
      cases e
      exact ⟨s', bx_stop (by rw [← h.er]; exact hz), h⟩
    · rw [if_neg hz] at e
      have hn : s'.err = none := by
        rw [← h.er]
        cases he : s.err with
        | none => rfl
        | some z => rw [he] at hz; exact absurd rfl hz
      cases hf : ix bits bo d (.one x) s with
      | none => rw [hf] at e; cases e
      | some res =>
        obtain ⟨w2, s2⟩ := res
        rw [hf] at e
        obtain ⟨s2', hB, h2⟩ := hd (.one x) s s' w2 s2 h hf
        cases w2 with
        | some w2 =>
          cases e
          exact ⟨s2', by have := bx_appW (b := r) (bx_one hn hB); exact this, h2⟩
        | none =>
          obtain ⟨s1', hB2, h3⟩ := simL9 hd r s2 s2' w s1 h2 e
          exact ⟨s1', by have := bx_appN (bx_one hn hB) hB2; exact this, h3⟩
theorem simA9 {d : Nat} (hd : SimR bits bo bo' Q d) {b : List Stm} : ∀ (n : Nat) (s s' : Ls) (w : Option Nat) (s1 : Ls), RQ Q s s' → lxA bits (ix bits bo d (.blk b)) n s = some (w, s1) → ∃ e s1', lxA bits (ix bits bo' e (.blk b)) n s' = some (w, s1') ∧ RQ Q s1 s1'
  | 0, s, s', w, s1, h, e => by
    rw [lxA] at e
    cases e
    exact ⟨0, s', by rw [lxA], h⟩
  | n + 1, s, s', w, s1, h, e => by
    obtain ⟨hb, hs⟩ := bit_rq (bits := bits) h
    rw [lxA] at e
    by_cases hz : (bitL bits s).1 = 0
    · rw [if_pos hz] at e
      cases e
      exact ⟨0, _, by rw [lxA, if_pos (by rw [← hb]; exact hz)], hs⟩
    · rw [if_neg hz] at e
      cases hf : ix bits bo d (.blk b) (bitL bits s).2 with
      | none => rw [hf] at e; cases e
      | some res =>
        obtain ⟨w2, s2⟩ := res
        rw [hf] at e
        dsimp only at e
        obtain ⟨s2', ⟨f, hB⟩, h2⟩ := hd (.blk b) _ _ w2 s2 hs hf
        by_cases hy : w2.isSome = true ∨ s2.err.isSome = true
        · rw [if_pos hy] at e
          cases e
          exact ⟨f, s2', by rw [lxA, if_neg (by rw [← hb]; exact hz), hB]; dsimp only; rw [if_pos (by rw [← h2.er]; exact hy)], h2⟩
        · rw [if_neg hy] at e
          obtain ⟨g, s1', hB2, h3⟩ := simA9 hd n s2 s2' w s1 h2 e
          refine ⟨max f g, s1', ?_, h3⟩
          rw [lxA, if_neg (by rw [← hb]; exact hz), ix_le hB (Nat.le_max_left f g)]
          dsimp only
          rw [if_neg (by rw [← h2.er]; exact hy)]
          exact lxA_fuel (fun s r h => ix_le h (Nat.le_max_right f g)) n s2' _ hB2
theorem ix_sim (hQ : ∀ a b, Q a b → Q (a + 1) (b + 1)) (HB : ∀ (p d : Nat), (∀ d', d' ≤ d → SimR bits bo bo' Q d') → ∀ (s s' : Ls) (w : Option Nat) (s1 : Ls), RQ Q s s' → ix bits bo d (.blk (bo.getD p [])) s = some (w, s1) → ∃ s1', Bx bits bo' (.blk (bo'.getD p [])) s' (w, s1') ∧ RQ Q s1 s1') : ∀ d, SimR bits bo bo' Q d := by
  intro d
  induction d using Nat.strongRecOn with
  | ind d ih =>
    intro t s s' w s1 h e
    cases d with
    | zero => rw [ix] at e; cases e
    | succ d =>
      have hd := ih d (Nat.lt_succ_self d)
      cases t with
      | blk b =>
        rw [ix] at e
        exact simL9 hd b s s' w s1 h e
      | one x =>
        rw [ix] at e
        have h1 : RQ Q { s with cnt := s.cnt + 1 } { s' with cnt := s'.cnt + 1 } := ⟨h.tk, h.st, h.ld, h.er, h.ln⟩
        cases x with
        | set k r =>
          cases e
          refine ⟨{ s' with cnt := s'.cnt + 1, stand := s'.stand.set k (totL r s'.stand s'.load), len := s'.len + 1 }, ⟨1, by rw [ix]; rfl⟩, h.tk, ?_, h.ld, h.er, hQ _ _ h.ln⟩
          show s.stand.set k (totL r s.stand s.load) = s'.stand.set k (totL r s'.stand s'.load)
          rw [h.st, h.ld]
        | carry r =>
          cases e
          refine ⟨{ s' with cnt := s'.cnt + 1, load := totL r s'.stand s'.load, len := s'.len + 1 }, ⟨1, by rw [ix]; rfl⟩, h.tk, h.st, ?_, h.er, hQ _ _ h.ln⟩
          show totL r s.stand s.load = totL r s'.stand s'.load
          rw [h.st, h.ld]
        | keep cs b =>
          obtain ⟨s1', ⟨f, hB⟩, h2⟩ := hd (.keep cs b) _ _ w s1 h1 e
          exact ⟨s1', ⟨f + 1, by rw [ix]; exact hB⟩, h2⟩
        | either a b =>
          rw [lx1] at e
          obtain ⟨hb, hs⟩ := bit_rq (bits := bits) h1
          obtain ⟨s1', ⟨f, hB⟩, h2⟩ := hd _ _ _ w s1 hs e
          exact ⟨s1', ⟨f + 1, by rw [ix, lx1, ← hb]; exact hB⟩, h2⟩
        | again b =>
          obtain ⟨s1', ⟨f, hB⟩, h2⟩ := hd (.again b) _ _ w s1 h1 e
          exact ⟨s1', ⟨f + 1, by rw [ix]; exact hB⟩, h2⟩
        | call p r a b =>
          obtain ⟨s1', ⟨f, hB⟩, h2⟩ := hd (.call p r a b) _ _ w s1 h1 e
          exact ⟨s1', ⟨f + 1, by rw [ix]; exact hB⟩, h2⟩
        | fin w1 =>
          cases e
          exact ⟨{ s' with cnt := s'.cnt + 1 }, ⟨1, by rw [ix]; rfl⟩, h.tk, h.st, h.ld, h.er, h.ln⟩
      | keep cs b =>
        rw [ix] at e
        cases hf : ix bits bo d (.blk b) s with
        | none => rw [hf] at e; cases e
        | some res =>
          obtain ⟨w2, s2⟩ := res
          rw [hf] at e
          cases e
          obtain ⟨s2', ⟨f, hB⟩, h2⟩ := hd (.blk b) s s' _ s2 h hf
          refine ⟨{ s2' with stand := putL cs s'.stand s2'.stand, load := s'.load }, ⟨f + 1, by rw [ix, hB]⟩, h2.tk, ?_, h.ld, h2.er, h2.ln⟩
          show putL cs s.stand s2.stand = putL cs s'.stand s2'.stand
          rw [h.st, h2.st]
      | again b =>
        rw [ix] at e
        obtain ⟨f, s1', hB, h2⟩ := simA9 hd (bits.length + 1) s s' w s1 h e
        exact ⟨s1', ⟨f + 1, by rw [ix]; exact hB⟩, h2⟩
      | call p r a b =>
        rw [ix] at e
        have h1 : RQ Q { s with load := totL r s.stand s.load } { s' with load := totL r s'.stand s'.load } := ⟨h.tk, h.st, by show totL r s.stand s.load = totL r s'.stand s'.load; rw [h.st, h.ld], h.er, h.ln⟩
        cases hf : ix bits bo d (.proc p) { s with load := totL r s.stand s.load } with
        | none => rw [hf] at e; cases e
        | some res =>
          obtain ⟨w2, s2⟩ := res
          rw [hf] at e
          obtain ⟨s2', ⟨f, hB⟩, h2⟩ := hd (.proc p) _ _ w2 s2 h1 hf
          have h3 : RQ Q { s2 with load := s.load } { s2' with load := s'.load } := ⟨h2.tk, h2.st, h.ld, h2.er, h2.ln⟩
          cases w2 with
          | none =>
            cases e
            exact ⟨_, ⟨f + 1, by rw [ix, hB]⟩, h3⟩
          | some w2 =>
            dsimp only at e
            obtain ⟨s1', ⟨g, hB2⟩, h4⟩ := hd _ _ _ w s1 h3 e
            refine ⟨s1', ⟨max f g + 1, ?_⟩, h4⟩
            rw [ix, ix_le hB (Nat.le_max_left f g)]
            exact ix_le hB2 (Nat.le_max_right f g)
      | proc p =>
        rw [ix] at e
        have h1 : RQ Q { s with begun := s.begun.set p (s.begun.getD p [] ++ [s.taken]) } { s' with begun := s'.begun.set p (s'.begun.getD p [] ++ [s'.taken]) } := ⟨h.tk, h.st, h.ld, h.er, h.ln⟩
        cases hf : ix bits bo d (.blk (bo.getD p [])) { s with begun := s.begun.set p (s.begun.getD p [] ++ [s.taken]) } with
        | none => rw [hf] at e; cases e
        | some res =>
          obtain ⟨w2, s2⟩ := res
          rw [hf] at e
          obtain ⟨s2', ⟨f, hB⟩, h2⟩ := HB p d (fun d' hl => ih d' (Nat.lt_succ_of_le hl)) _ _ w2 s2 h1 hf
          dsimp only at e
          by_cases hy : s2.err.isSome = true
          · rw [if_pos hy] at e
            cases e
            exact ⟨{ s2' with begun := s2'.begun.set p (s2'.begun.getD p []).dropLast }, ⟨f + 1, by rw [ix, hB]; dsimp only; rw [if_pos (by rw [← h2.er]; exact hy)]⟩, h2.tk, h2.st, h2.ld, h2.er, h2.ln⟩
          · rw [if_neg hy] at e
            cases e
            exact ⟨{ s2' with begun := s2'.begun.set p (s2'.begun.getD p []).dropLast }, ⟨f + 1, by rw [ix, hB]; dsimp only; rw [if_neg (by rw [← h2.er]; exact hy)]⟩, h2.tk, h2.st, h2.ld, h2.er, h2.ln⟩
end
/-! #### the call and what is set in -/
section
variable {bits : List Nat} {bo : List (List Stm)} {Q : Nat → Nat → Prop} {row : List Int} {bf bh af cd : List Stm} {os : List (List Stm)}
def cP0 (row : List Int) (s : Ls) : Ls := { s with cnt := s.cnt + 1, load := totL row s.stand s.load, begun := s.begun.set 1 (s.begun.getD 1 [] ++ [s.taken]) }
def cP1 (s4 : Ls) (ld : Int) : Ls := { s4 with begun := s4.begun.set 1 (s4.begun.getD 1 []).dropLast, load := ld }
/-- a call whose procedure does not end a way of its own -/
theorem ix_call1 {d : Nat} {s : Ls} {r : Option Nat × Ls} (hg : bo.getD 1 [] = cd) (hNF : ∀ d s r, ix bits bo d (.blk cd) s = some r → r.1 = none) (h : ix bits bo d (.one (.call 1 row bh [.fin 1])) s = some r) :
    ∃ d3 s4, d3 + 3 ≤ d ∧ ix bits bo d3 (.blk cd) (cP0 row s) = some (none, s4) ∧ ((s4.err.isSome = true ∧ r = (none, cP1 s4 s.load)) ∨ (¬s4.err.isSome = true ∧ ix bits bo (d3 + 1) (.blk bh) (cP1 s4 s.load) = some r)) := by
  cases d with
  | zero => rw [ix] at h; cases h
  | succ d1 =>
  cases d1 with
  | zero => rw [ix, lx1, ix] at h; cases h
  | succ d2 =>
  cases d2 with
  | zero => rw [ix, lx1, ix, ix] at h; cases h
  | succ d3 =>
  rw [ix, lx1, ix, ix, hg] at h
  have hS : ix bits bo d3 (.blk cd) (cP0 row s) = ix bits bo d3 (.blk cd) { ({ s with cnt := s.cnt + 1, load := totL row s.stand s.load } : Ls) with begun := s.begun.set 1 (s.begun.getD 1 [] ++ [s.taken]) } := rfl
  cases hf : ix bits bo d3 (.blk cd) (cP0 row s) with
  | none =>
    rw [hS] at hf
    dsimp only at h
    rw [hf] at h
    cases h
  | some r4 =>
    obtain ⟨w4, s4⟩ := r4
    have hw : w4 = none := hNF d3 _ _ hf
    subst hw
    rw [hS] at hf
    dsimp only at h
    rw [hf] at h
    dsimp only at h
    cases d3 with
    | zero => rw [ix] at hf; cases hf
    | succ d3 =>
    refine ⟨d3 + 1, s4, by omega, by rw [hS]; exact hf, ?_⟩
    by_cases hy : s4.err.isSome = true
    · rw [if_pos hy] at h
      cases h
      exact .inl ⟨hy, rfl⟩
    · rw [if_neg hy] at h
      exact .inr ⟨hy, h⟩
/-- the other way: what the called body does, the call does -/
theorem bx_callE {s s4 : Ls} (hg : bo.getD 1 [] = cd) (h : Bx bits bo (.blk cd) (cP0 row s) (none, s4)) (hy : s4.err.isSome = true) : Bx bits bo (.one (.call 1 row bh [.fin 1])) s (none, cP1 s4 s.load) := by
  obtain ⟨d, h⟩ := h
  have hS : ix bits bo d (.blk cd) { ({ s with cnt := s.cnt + 1, load := totL row s.stand s.load } : Ls) with begun := s.begun.set 1 (s.begun.getD 1 [] ++ [s.taken]) } = some (none, s4) := h
  refine ⟨d + 3, ?_⟩
  rw [ix, lx1, ix, ix, hg]
  dsimp only
  rw [hS]
  dsimp only
  rw [if_pos hy]
  rfl
theorem bx_callK {s s4 : Ls} {r : Option Nat × Ls} (hg : bo.getD 1 [] = cd) (h : Bx bits bo (.blk cd) (cP0 row s) (none, s4)) (hy : ¬s4.err.isSome = true) (h2 : Bx bits bo (.blk bh) (cP1 s4 s.load) r) : Bx bits bo (.one (.call 1 row bh [.fin 1])) s r := by
  obtain ⟨d, h⟩ := h
  obtain ⟨e, h2⟩ := h2
  have g1 := ix_le h (Nat.le_max_left d e)
  have g2 := ix_le h2 (Nat.le_succ_of_le (Nat.le_max_right d e))
  generalize max d e = f at g1 g2
  have hS : ix bits bo f (.blk cd) { ({ s with cnt := s.cnt + 1, load := totL row s.stand s.load } : Ls) with begun := s.begun.set 1 (s.begun.getD 1 [] ++ [s.taken]) } = some (none, s4) := g1
  refine ⟨f + 3, ?_⟩
  rw [ix, lx1, ix, ix, hg]
  dsimp only
  rw [hS]
  dsimp only
  rw [if_neg hy]
  exact g2
/-- the state behind the carry that was set in -/
def kP0 (row : List Int) (s : Ls) : Ls := { s with cnt := s.cnt + 1 + 1, load := totL row s.stand s.load, len := s.len + 1 }
theorem ix_keep1 {d : Nat} {s : Ls} {r : Option Nat × Ls} (hs : s.err = none) (hNF : ∀ d s r, ix bits bo d (.blk cd) s = some r → r.1 = none) (h : ix bits bo d (.one (.keep [] (.carry row :: cd))) s = some r) :
    ∃ d3 s4, d3 ≤ d ∧ ix bits bo d3 (.blk cd) (kP0 row s) = some (none, s4) ∧ r = (none, { s4 with load := s.load }) := by
  cases d with
  | zero => rw [ix] at h; cases h
  | succ d1 =>
  cases d1 with
  | zero => rw [ix, lx1, ix] at h; cases h
  | succ d2 =>
  cases d2 with
  | zero => rw [ix, lx1, ix, ix] at h; cases h
  | succ d3 =>
  cases d3 with
  | zero => rw [ix, lx1, ix, ix, lxL, if_neg (by show ¬s.err.isSome = true; exact not_some hs), ix] at h; cases h
  | succ d4 =>
  rw [ix, lx1, ix, ix, lxL, if_neg (by show ¬s.err.isSome = true; exact not_some hs), ix] at h
  have hS : ix bits bo (d4 + 1 + 1) (.blk cd) (kP0 row s) = lxL (fun x => ix bits bo (d4 + 1) (.one x)) cd { s with cnt := s.cnt + 1 + 1, load := totL row s.stand s.load, len := s.len + 1 } := by rw [ix]; rfl
  cases hf : ix bits bo (d4 + 1 + 1) (.blk cd) (kP0 row s) with
  | none =>
    rw [hS] at hf
    dsimp only [lx1] at h
    rw [hf] at h
    cases h
  | some r4 =>
    obtain ⟨w4, s4⟩ := r4
    have hw : w4 = none := hNF _ _ _ hf
    subst hw
    refine ⟨d4 + 1 + 1, s4, by omega, hf, ?_⟩
    rw [hS] at hf
    dsimp only [lx1] at h
    rw [hf] at h
    exact (Option.some.inj h).symm
theorem bx_keep1 {s s4 : Ls} (hs : s.err = none) (h : Bx bits bo (.blk cd) (kP0 row s) (none, s4)) : Bx bits bo (.one (.keep [] (.carry row :: cd))) s (none, { s4 with load := s.load }) := by
  obtain ⟨d, h⟩ := h
  cases d with
  | zero => rw [ix] at h; cases h
  | succ d =>
  have g := ix_fuel _ _ _ _ h
  have hS : lxL (fun x => ix bits bo (d + 1) (.one x)) cd { s with cnt := s.cnt + 1 + 1, load := totL row s.stand s.load, len := s.len + 1 } = some (none, s4) := by rw [ix] at g; exact g
  refine ⟨d + 4, ?_⟩
  rw [ix, lx1, ix, ix, lxL, if_neg (by show ¬s.err.isSome = true; exact not_some hs), ix]
  dsimp only [lx1]
  rw [hS]
  rfl
end
/-! #### both books -/
section
variable {bits : List Nat} {Q : Nat → Nat → Prop} {row : List Int} {bf bh af cd : List Stm} {os : List (List Stm)}
def bo1 (row : List Int) (bf bh af cd : List Stm) (os : List (List Stm)) : List (List Stm) := (bf ++ (.call 1 row bh [.fin 1] :: af)) :: cd :: os
def bo2 (row : List Int) (bf bh af cd : List Stm) (os : List (List Stm)) : List (List Stm) := (bf ++ (.keep [] (.carry row :: cd) :: (bh ++ af))) :: cd :: os
theorem err_of {s : Ls} (h : ¬s.err.isSome = true) : s.err = none := by
  cases he : s.err with
  | none => rfl
  | some z => rw [he] at h; exact absurd rfl h
theorem HB1 (hS : ∀ a b, Q a b → Q a (b + 1)) (hNF : ∀ d s r, ix bits (bo1 row bf bh af cd os) d (.blk cd) s = some r → r.1 = none) (p d : Nat) (hI : ∀ d', d' ≤ d → SimR bits (bo1 row bf bh af cd os) (bo2 row bf bh af cd os) Q d') (s s' : Ls) (w : Option Nat) (s1 : Ls) (h : RQ Q s s') (e : ix bits (bo1 row bf bh af cd os) d (.blk ((bo1 row bf bh af cd os).getD p [])) s = some (w, s1)) : ∃ s1', Bx bits (bo2 row bf bh af cd os) (.blk ((bo2 row bf bh af cd os).getD p [])) s' (w, s1') ∧ RQ Q s1 s1' := by
  cases p with
  | succ p => exact hI d (Nat.le_refl d) _ s s' w s1 h e
  | zero =>
    show ∃ s1', Bx bits _ (.blk (bf ++ (.keep [] (.carry row :: cd) :: (bh ++ af)))) s' (w, s1') ∧ RQ Q s1 s1'
    have e0 : ix bits (bo1 row bf bh af cd os) d (.blk (bf ++ (.call 1 row bh [.fin 1] :: af))) s = some (w, s1) := e
    cases d with
    | zero => rw [ix] at e0; cases e0
    | succ d =>
    rw [ix, lxL_app9] at e0
    cases hf : lxL (fun x => ix bits (bo1 row bf bh af cd os) d (.one x)) bf s with
    | none => rw [hf] at e0; cases e0
    | some rb =>
      obtain ⟨wb, sb⟩ := rb
      rw [hf] at e0
      obtain ⟨sb', hB0, hb⟩ := hI (d + 1) (Nat.le_refl _) (.blk bf) s s' wb sb h (by rw [ix]; exact hf)
      cases wb with
      | some wb => cases e0; exact ⟨sb', bx_appW hB0, hb⟩
      | none =>
        dsimp only at e0
        by_cases hz : sb.err.isSome = true
        · rw [lxL_stop hz] at e0
          cases e0
          exact ⟨sb', bx_appN hB0 (bx_stop (by rw [← hb.er]; exact hz)), hb⟩
        · have hn : sb'.err = none := by rw [← hb.er]; exact err_of hz
          rw [lxL, if_neg hz] at e0
          cases hc : ix bits (bo1 row bf bh af cd os) d (.one (.call 1 row bh [.fin 1])) sb with
          | none => rw [hc] at e0; cases e0
          | some rc =>
            rw [hc] at e0
            obtain ⟨d3, s4, hd3, hcd, hcase⟩ := ix_call1 (cd := cd) rfl hNF hc
            have hR0 : RQ Q (cP0 row sb) (kP0 row sb') := ⟨hb.tk, hb.st, by show totL row sb.stand sb.load = totL row sb'.stand sb'.load; rw [hb.st, hb.ld], hb.er, hS _ _ hb.ln⟩
            obtain ⟨s4', hB4, h4⟩ := hI d3 (by omega) (.blk cd) _ _ none s4 hR0 hcd
            have hK := bx_keep1 (row := row) hn hB4
            have hR1 : RQ Q (cP1 s4 sb.load) { s4' with load := sb'.load } := ⟨h4.tk, h4.st, hb.ld, h4.er, h4.ln⟩
            rcases hcase with ⟨hy, rfl⟩ | ⟨hy, hbh⟩
            · dsimp only at e0
              rw [lxL_stop (show (cP1 s4 sb.load).err.isSome = true from hy)] at e0
              cases e0
              exact ⟨_, bx_appN hB0 (bx_appN (a := [.keep [] (.carry row :: cd)]) (bx_one hn hK) (bx_stop (by show s4'.err.isSome = true; rw [← h4.er]; exact hy))), hR1⟩
            · obtain ⟨wc, sc⟩ := rc
              obtain ⟨sc', hBc, h5⟩ := hI (d3 + 1) (by omega) (.blk bh) _ _ wc sc hR1 hbh
              cases wc with
              | some wc =>
                cases e0
                exact ⟨sc', bx_appN hB0 (bx_appN (a := [.keep [] (.carry row :: cd)]) (bx_one hn hK) (bx_appW hBc)), h5⟩
              | none =>
                dsimp only at e0
                obtain ⟨s1', hBa, h6⟩ := hI (d + 1) (Nat.le_refl _) (.blk af) sc sc' w s1 h5 (by rw [ix]; exact e0)
                exact ⟨s1', bx_appN hB0 (bx_appN (a := [.keep [] (.carry row :: cd)]) (bx_one hn hK) (bx_appN hBc hBa)), h6⟩
theorem HB2 (hNF : ∀ d s r, ix bits (bo2 row bf bh af cd os) d (.blk cd) s = some r → r.1 = none) (p d : Nat) (hI : ∀ d', d' ≤ d → SimR bits (bo2 row bf bh af cd os) (bo1 row bf bh af cd os) (fun _ _ => True) d') (s s' : Ls) (w : Option Nat) (s1 : Ls) (h : RQ (fun _ _ => True) s s') (e : ix bits (bo2 row bf bh af cd os) d (.blk ((bo2 row bf bh af cd os).getD p [])) s = some (w, s1)) : ∃ s1', Bx bits (bo1 row bf bh af cd os) (.blk ((bo1 row bf bh af cd os).getD p [])) s' (w, s1') ∧ RQ (fun _ _ => True) s1 s1' := by
  cases p with
  | succ p => exact hI d (Nat.le_refl d) _ s s' w s1 h e
  | zero =>
    show ∃ s1', Bx bits _ (.blk (bf ++ (.call 1 row bh [.fin 1] :: af))) s' (w, s1') ∧ RQ _ s1 s1'
    have e0 : ix bits (bo2 row bf bh af cd os) d (.blk (bf ++ (.keep [] (.carry row :: cd) :: (bh ++ af)))) s = some (w, s1) := e
    cases d with
    | zero => rw [ix] at e0; cases e0
    | succ d =>
    rw [ix, lxL_app9] at e0
    cases hf : lxL (fun x => ix bits (bo2 row bf bh af cd os) d (.one x)) bf s with
    | none => rw [hf] at e0; cases e0
    | some rb =>
      obtain ⟨wb, sb⟩ := rb
      rw [hf] at e0
      obtain ⟨sb', hB0, hb⟩ := hI (d + 1) (Nat.le_refl _) (.blk bf) s s' wb sb h (by rw [ix]; exact hf)
      cases wb with
      | some wb => cases e0; exact ⟨sb', bx_appW hB0, hb⟩
      | none =>
        dsimp only at e0
        by_cases hz : sb.err.isSome = true
        · rw [lxL_stop hz] at e0
          cases e0
          exact ⟨sb', bx_appN hB0 (bx_stop (by rw [← hb.er]; exact hz)), hb⟩
        · have hn : sb'.err = none := by rw [← hb.er]; exact err_of hz
          rw [lxL, if_neg hz] at e0
          cases hc : ix bits (bo2 row bf bh af cd os) d (.one (.keep [] (.carry row :: cd))) sb with
          | none => rw [hc] at e0; cases e0
          | some rc =>
            rw [hc] at e0
            obtain ⟨d3, s4, hd3, hcd, rfl⟩ := ix_keep1 (err_of hz) hNF hc
            dsimp only at e0
            have hR0 : RQ (fun _ _ => True) (kP0 row sb) (cP0 row sb') := ⟨hb.tk, hb.st, by show totL row sb.stand sb.load = totL row sb'.stand sb'.load; rw [hb.st, hb.ld], hb.er, trivial⟩
            obtain ⟨s4', hB4, h4⟩ := hI d3 (by omega) (.blk cd) _ _ none s4 hR0 hcd
            have hR1 : RQ (fun _ _ => True) { s4 with load := sb.load } (cP1 s4' sb'.load) := ⟨h4.tk, h4.st, hb.ld, h4.er, trivial⟩
            by_cases hy : s4.err.isSome = true
            · rw [lxL_stop (show ({ s4 with load := sb.load } : Ls).err.isSome = true from hy)] at e0
              cases e0
              have hK := bx_callE (row := row) (bh := bh) (s := sb') (bo := bo1 row bf bh af cd os) rfl hB4 (by rw [← h4.er]; exact hy)
              exact ⟨_, bx_appN hB0 (bx_appN (a := [.call 1 row bh [.fin 1]]) (bx_one hn hK) (bx_stop (by show s4'.err.isSome = true; rw [← h4.er]; exact hy))), hR1⟩
            · rw [lxL_app9] at e0
              cases hg : lxL (fun x => ix bits (bo2 row bf bh af cd os) d (.one x)) bh { s4 with load := sb.load } with
              | none => rw [hg] at e0; cases e0
              | some r5 =>
                obtain ⟨w5, s5⟩ := r5
                rw [hg] at e0
                obtain ⟨s5', hB5, h5⟩ := hI (d + 1) (Nat.le_refl _) (.blk bh) _ _ w5 s5 hR1 (by rw [ix]; exact hg)
                have hK := bx_callK (row := row) (bh := bh) (s := sb') (bo := bo1 row bf bh af cd os) rfl hB4 (by rw [← h4.er]; exact hy) hB5
                cases w5 with
                | some w5 =>
                  cases e0
                  exact ⟨s5', bx_appN hB0 (bx_appW (a := [.call 1 row bh [.fin 1]]) (bx_one hn hK)), h5⟩
                | none =>
                  dsimp only at e0
                  obtain ⟨s1', hBa, h6⟩ := hI (d + 1) (Nat.le_refl _) (.blk af) s5 s5' w s1 h5 (by rw [ix]; exact e0)
                  exact ⟨s1', bx_appN hB0 (bx_appN (a := [.call 1 row bh [.fin 1]]) (bx_one hn hK) hBa), h6⟩
end
/-! #### bodies that end no way of their own, and what the law compares -/
mutual
def nfS : Stm → Bool
  | .set _ _ => true
  | .carry _ => true
  | .keep _ b => nfL b
  | .either a b => nfL a && nfL b
  | .again b => nfL b
  | .call _ _ a b => nfL a && nfL b
  | .fin _ => false
def nfL : List Stm → Bool
  | [] => true
  | x :: r => nfS x && nfL r
end
def nfT : Tk → Prop
  | .blk b => nfL b = true
  | .one x => nfS x = true
  | .keep _ b => nfL b = true
  | .again b => nfL b = true
  | .call _ _ a b => nfL a = true ∧ nfL b = true
  | .proc _ => False
section
variable {bits : List Nat} {bo : List (List Stm)}
theorem nf_list {g : Stm → Ls → LR} (hg : ∀ x s r, nfS x = true → g x s = some r → r.1 = none) : ∀ (b : List Stm) (s : Ls) (r : Option Nat × Ls), nfL b = true → lxL g b s = some r → r.1 = none
  | [], s, r, _, h => by rw [lxL] at h; cases h; rfl
  | x :: b, s, r, hn, h => by
    rw [nfL, Bool.and_eq_true] at hn
    rw [lxL] at h
    by_cases hz : s.err.isSome = true
    · rw [if_pos hz] at h; cases h; rfl
    · rw [if_neg hz] at h
      cases hf : g x s with
      | none => rw [hf] at h; cases h
      | some r1 =>
        have := hg x s r1 hn.1 hf
        obtain ⟨w1, s1⟩ := r1
        dsimp only at this
        subst this
        rw [hf] at h
        exact nf_list hg b s1 r hn.2 h
theorem nf_again {g : Ls → LR} (hg : ∀ s r, g s = some r → r.1 = none) : ∀ (n : Nat) (s : Ls) (r : Option Nat × Ls), lxA bits g n s = some r → r.1 = none
  | 0, s, r, h => by rw [lxA] at h; cases h; rfl
  | n + 1, s, r, h => by
    rw [lxA] at h
    by_cases hz : (bitL bits s).1 = 0
    · rw [if_pos hz] at h; cases h; rfl
    · rw [if_neg hz] at h
      cases hf : g (bitL bits s).2 with
      | none => rw [hf] at h; cases h
      | some r1 =>
        have h1 := hg _ r1 hf
        obtain ⟨w1, s1⟩ := r1
        dsimp only at h1
        subst h1
        rw [hf] at h
        dsimp only at h
        split at h
        · cases h; rfl
        · exact nf_again hg n s1 r h
theorem ix_nf : ∀ (d : Nat) (t : Tk) (s : Ls) (r : Option Nat × Ls), nfT t → ix bits bo d t s = some r → r.1 = none
  | 0, t, s, r, _, h => by rw [ix] at h; cases h
  | d + 1, .blk b, s, r, hn, h => by
    rw [ix] at h
    exact nf_list (fun x s r hx h => ix_nf d (.one x) s r hx h) b s r hn h
  | d + 1, .one x, s, r, hn, h => by
    rw [ix] at h
    have hn : nfS x = true := hn
    cases x with
    | set k row => cases h; rfl
    | carry row => cases h; rfl
    | keep cs b => rw [nfS] at hn; exact ix_nf d (.keep cs b) _ r hn h
    | either a b =>
      rw [nfS, Bool.and_eq_true] at hn
      rw [lx1] at h
      refine ix_nf d (.blk _) _ r ?_ h
      show nfL _ = true
      split
      · exact hn.1
      · exact hn.2
    | again b => rw [nfS] at hn; exact ix_nf d (.again b) _ r hn h
    | call p row a b => rw [nfS, Bool.and_eq_true] at hn; exact ix_nf d (.call p row a b) _ r hn h
    | fin w => rw [nfS] at hn; cases hn
  | d + 1, .keep cs b, s, r, hn, h => by
    rw [ix] at h
    cases hf : ix bits bo d (.blk b) s with
    | none => rw [hf] at h; cases h
    | some r1 =>
      have h1 := ix_nf d (.blk b) s r1 hn hf
      obtain ⟨w1, s1⟩ := r1
      dsimp only at h1
      subst h1
      rw [hf] at h
      cases h
      rfl
  | d + 1, .again b, s, r, hn, h => by
    rw [ix] at h
    exact nf_again (fun s r h => ix_nf d (.blk b) s r hn h) _ s r h
  | d + 1, .call p row a b, s, r, hn, h => by
    rw [ix] at h
    cases hf : ix bits bo d (.proc p) { s with load := totL row s.stand s.load } with
    | none => rw [hf] at h; cases h
    | some r1 =>
      obtain ⟨w1, s1⟩ := r1
      rw [hf] at h
      cases w1 with
      | none => cases h; rfl
      | some w1 =>
        refine ix_nf d (.blk _) _ r ?_ h
        show nfL _ = true
        split
        · exact hn.1
        · exact hn.2
theorem set_in {c m : Nat} {row : List Int} {bf bh af cd : List Stm} {os : List (List Stm)} {v : List Int} {l : Int} {w1 w2 : Option Nat} {s1 s2 : Ls} (hnf : nfL cd = true) (hc : c ≤ 3)
    (h1 : ∀ b ∈ bo1 row bf bh af cd os, ∃ lv, okL c m b lv) (h2 : ∀ b ∈ bo2 row bf bh af cd os, ∃ lv, okL c m b lv) (hm1 : (bo1 row bf bh af cd os).length = m) (hm2 : (bo2 row bf bh af cd os).length = m) (hm : 0 < m) (hv : v.length = c)
    (e1 : lx bits (bo1 row bf bh af cd os) 640 (.proc 0) (ls0 (bo1 row bf bh af cd os) v l) = some (w1, s1)) (e2 : lx bits (bo2 row bf bh af cd os) 640 (.proc 0) (ls0 (bo2 row bf bh af cd os) v l) = some (w2, s2)) (n1 : s1.err ≠ some .long) (n2 : s2.err ≠ some .long) :
    (M2 s1 ∧ M2 s2) ∨ (¬M2 s1 ∧ ¬M2 s2 ∧ w1 = w2 ∧ s1.taken = s2.taken ∧ s1.stand = s2.stand ∧ s1.load = s2.load ∧ s1.err = s2.err ∧ s1.len ≤ s2.len) := by
  have hR : ∀ {Q : Nat → Nat → Prop} {b b' : List (List Stm)}, Q 0 0 → RQ Q (ls0 b v l) (ls0 b' v l) := fun q => ⟨rfl, rfl, rfl, rfl, q⟩
  have bad : ∀ {s : Ls}, s.err ≠ some .long → ¬M2 s → ¬BadE s := fun a b z => z.elim a b
  have N1 : ∀ d s r, ix bits (bo1 row bf bh af cd os) d (.blk cd) s = some r → r.1 = none := fun d s r h => ix_nf d (.blk cd) s r hnf h
  have N2 : ∀ d s r, ix bits (bo2 row bf bh af cd os) d (.blk cd) s = some r → r.1 = none := fun d s r h => ix_nf d (.blk cd) s r hnf h
  have F := ix_sim (bits := bits) (Q := fun a b => a ≤ b) (fun _ _ h => Nat.succ_le_succ h) (HB1 (fun _ _ h => Nat.le_succ_of_le h) N1)
  have G := ix_sim (bits := bits) (Q := fun _ _ => True) (fun _ _ h => h) (HB2 N2)
  by_cases hz1 : M2 s1
  · refine .inl ⟨hz1, ?_⟩
    by_cases hz2 : M2 s2
    · exact hz2
    · obtain ⟨s3, ⟨f, hf⟩, _⟩ := G 640 (.proc 0) _ (ls0 (bo1 row bf bh af cd os) v l) w2 s2 (hR trivial) (ix_lx 640 (.proc 0) _ w2 s2 e2 (bad n2 hz2))
      rw [ix_never h1 hm1 hc hm hv e1 hz1 f] at hf
      cases hf
  · obtain ⟨s3, ⟨f, hf⟩, hr⟩ := F 640 (.proc 0) _ (ls0 (bo2 row bf bh af cd os) v l) w1 s1 (hR (Nat.le_refl 0)) (ix_lx 640 (.proc 0) _ w1 s1 e1 (bad n1 hz1))
    by_cases hz2 : M2 s2
    · rw [ix_never h2 hm2 hc hm hv e2 hz2 f] at hf
      cases hf
    · have := ix_det hf (ix_lx 640 (.proc 0) _ w2 s2 e2 (bad n2 hz2))
      cases this
      exact .inr ⟨hz1, hz2, rfl, hr.tk, hr.st, hr.ld, hr.er, hr.ln⟩
end
/-! #### ends replaced by sets: the mathematics of _law_endless -/
mutual
def enS (c : Nat) : Stm → Stm
  | .set k r => .set k r
  | .carry r => .carry r
  | .keep cs b => .keep cs (enL c b)
  | .either a b => .either (enL c a) (enL c b)
  | .again b => .again (enL c b)
  | .call p r a b => .call p r (enL c a) (enL c b)
  | .fin w => .set 0 ((w : Int) :: List.replicate (c + 1) 0)
def enL (c : Nat) : List Stm → List Stm
  | [] => []
  | x :: r => enS c x :: enL c r
end
theorem enL_len (c : Nat) : ∀ b : List Stm, (enL c b).length = b.length
  | [] => by rw [enL]
  | x :: r => by rw [enL, List.length_cons, List.length_cons, enL_len c r]
theorem enL_app (c : Nat) : ∀ a b : List Stm, enL c (a ++ b) = enL c a ++ enL c b
  | [], b => by rw [List.nil_append, enL]; rfl
  | x :: a, b => by rw [List.cons_append, enL, enL, enL_app c a b]; rfl
mutual
theorem nf_enS (c : Nat) : ∀ x : Stm, nfS (enS c x) = true
  | .set k r => by rw [enS, nfS]
  | .carry r => by rw [enS, nfS]
  | .keep cs b => by rw [enS, nfS]; exact nf_enL c b
  | .either a b => by rw [enS, nfS, nf_enL c a, nf_enL c b]; rfl
  | .again b => by rw [enS, nfS]; exact nf_enL c b
  | .call p r a b => by rw [enS, nfS, nf_enL c a, nf_enL c b]; rfl
  | .fin w => by rw [enS, nfS]
theorem nf_enL (c : Nat) : ∀ b : List Stm, nfL (enL c b) = true
  | [] => by rw [enL, nfL]
  | x :: r => by rw [enL, nfL, nf_enS c x, nf_enL c r]; rfl
end
mutual
theorem cnt_enS (c : Nat) : ∀ x : Stm, cnt (enS c x) = cnt x
  | .set k r => by rw [enS]
  | .carry r => by rw [enS]
  | .keep cs b => by rw [enS, cnt, cnt, cnt_enL c b]
  | .either a b => by rw [enS, cnt, cnt, cnt_enL c a, cnt_enL c b]
  | .again b => by rw [enS, cnt, cnt, cnt_enL c b]
  | .call p r a b => by rw [enS, cnt, cnt, cnt_enL c a, cnt_enL c b]
  | .fin w => by rw [enS, cnt, cnt]
theorem cnt_enL (c : Nat) : ∀ b : List Stm, cntL (enL c b) = cntL b
  | [] => by rw [enL]
  | x :: r => by rw [enL, cntL, cntL, cnt_enS c x, cnt_enL c r]
end
mutual
theorem ok_enS {c m : Nat} (c1 : 1 ≤ c) : ∀ (x : Stm) (lv : Nat), okS c m x lv → okS c m (enS c x) lv
  | .set k r, lv, h => by rw [enS]; exact h
  | .carry r, lv, h => by rw [enS]; exact h
  | .keep cs b, lv, h => by
    rw [okS] at h
    rw [enS, okS, enL_len]
    exact ⟨h.1, h.2.1, h.2.2.1, ok_enL c1 b _ h.2.2.2⟩
  | .either a b, lv, h => by
    rw [okS] at h
    rw [enS, okS, enL_len, enL_len]
    exact ⟨h.1, h.2.1, ok_enL c1 a _ h.2.2.1, h.2.2.2.1, ok_enL c1 b _ h.2.2.2.2⟩
  | .again b, lv, h => by
    rw [okS] at h
    rw [enS, okS, enL_len]
    exact ⟨h.1, h.2.1, ok_enL c1 b _ h.2.2⟩
  | .call p r a b, lv, h => by
    rw [okS] at h
    rw [enS, okS, enL_len, enL_len]
    exact ⟨h.1, h.2.1, h.2.2.1, h.2.2.2.1, ok_enL c1 a _ h.2.2.2.2.1, h.2.2.2.2.2.1, ok_enL c1 b _ h.2.2.2.2.2.2⟩
  | .fin w, lv, h => by
    rw [okS] at h
    rw [enS, okS]
    refine ⟨by omega, by rw [List.length_cons, List.length_replicate], fun x hx => ?_⟩
    rcases List.mem_cons.mp hx with rfl | hx
    · omega
    · rw [(List.mem_replicate.mp hx).2]; decide
theorem ok_enL {c m : Nat} (c1 : 1 ≤ c) : ∀ (b : List Stm) (lv : Nat), okL c m b lv → okL c m (enL c b) lv
  | [], lv, h => by rw [enL]; exact h
  | x :: r, lv, h => by
    rw [okL] at h
    rw [enL, okL]
    exact ⟨ok_enS c1 x lv h.1, ok_enL c1 r lv h.2⟩
end
theorem okB_end {c m : Nat} {b : List Stm} (c1 : 1 ≤ c) (h : okB c m b) : okB c m (enL c b) := ⟨ok_enL c1 b 0 h.1, by rw [enL_len]; exact h.2.1, by rw [cnt_enL]; exact h.2.2⟩
/-! ### the law's blocks of a statement -/
abbrev s_law_blocks : Stmt := topS 61
theorem sc_law_blocks : FnScope ["statement"] ["statement"] (defScope s_law_blocks) := ⟨rfl, rfl, rfl, by decide +kernel, rfl, by decide +kernel, by decide +kernel⟩
section
variable {P : Program} {w : World} {K : PySem.W.Frag} {mg : Str → Option Value} {base : Heap} {σ : L2.St} {H H' H0 : Hp}
def spLBlocks (K : PySem.W.Frag) : Sp := fun vs H Q _ => ∃ (v : V) (d : PyData) (c m : Nat) (H0 : Hp), vs = [v] ∧ Ex H0 H ∧ Dp K H0 v d ∧ stmD c m d = true ∧ ∀ B bs H', Ex H H' → SqL K H' B bs → DpAll K H0 bs (blocksD d) → Q (.ref B) H'
theorem ok_lblocks {f : Addr} {fd : FuncData} {k : Nat} (F : Fun K "_law_blocks" "_law_blocks" s_law_blocks f fd) : FnOk P w K mg base CX0 (k + 1) f fd ["statement"] (spLBlocks K) := by
  have sc := sc_law_blocks
  refine F.ok sc (fun vs H Q E h => ?_) (fun cdv A outer s H vs Q E hr h => ?_)
  · obtain ⟨v, d, c, m, H0, rfl, _⟩ := h
    rfl
  · obtain ⟨v, d, c, m, H0, rfl, e0, hd, hst, q⟩ := h
    refine ⟨_, (pss_cons (ps_if (pt_cmpR op_eq (pe_ix ix_tup (pv 0) pe_int (fun _ _ => rfl)) pe_str (nomark _))
      (pss_one (ps_ret (pe_lst (pa_cons (pe_ix ix_tup (pv 0) pe_int (fun _ _ => rfl)) pa_nil))))
      pss_nil)
      (pss_cons (ps_if (pt_cmpR op_eq (pe_ix ix_tup (pv 0) pe_int (fun _ _ => rfl)) pe_str (nomark _))
      (pss_one (ps_ret (pe_lst (pa_cons (pe_ix ix_tup (pv 0) pe_int (fun _ _ => rfl)) pa_nil))))
      pss_nil)
      (pss_cons (ps_if (pt_cmpR op_eq (pe_ix ix_tup (pv 0) pe_int (fun _ _ => rfl)) pe_str (nomark _))
      (pss_one (ps_ret (pe_lst (pa_cons (pe_ix ix_tup (pv 0) pe_int (fun _ _ => rfl)) (pa_cons (pe_ix ix_tup (pv 0) pe_int (fun _ _ => rfl)) pa_nil)))))
      pss_nil)
      (pss_cons (ps_if (pt_cmpR op_eq (pe_ix ix_tup (pv 0) pe_int (fun _ _ => rfl)) pe_str (nomark _))
      (pss_one (ps_ret (pe_ix ix_tup (pv 0) pe_int (fun _ _ => rfl))))
      pss_nil)
      (pss_one (ps_ret (pe_lst pa_nil))))))), ?_⟩
    have skip : ∀ {D : Ends} {tr tz : TS} {x y : Str} {σ : L2.St} {H1 : Hp} {t : Addr} {r : List V}, σ[0]? = some (some (.ref t)) → SqT K H1 t (.str x :: r) → decide (V.str x = V.str y) = false → (∀ H2, Ex H1 H2 → tz D σ H2) →
        tSeq (tIfS (tTest (tOp rEq (tOp (rIxT K) (tVar 0) (tC (.int 0))) (tC (.str y)))) tr tNext) tz D σ H1 := fun hσ hs hne kk =>
      q_when (et_test (ev_op (ev_at (j := 0) (ev_var hσ) hs rfl) ev_c (rv_eq rfl))) (fun h => by rw [hne] at h; cases h) fun _ H2 e => kk H2 e
    have here : ∀ {D : Ends} {tr tz : TS} {x : Str} {σ : L2.St} {H1 : Hp} {t : Addr} {r : List V}, σ[0]? = some (some (.ref t)) → SqT K H1 t (.str x :: r) → (∀ H2, Ex H1 H2 → tr { D with nx := tz D } σ H2) →
        tSeq (tIfS (tTest (tOp rEq (tOp (rIxT K) (tVar 0) (tC (.int 0))) (tC (.str x)))) tr tNext) tz D σ H1 := fun hσ hs kk =>
      q_when (et_test (ev_op (ev_at (j := 0) (ev_var hσ) hs rfl) ev_c (rv_eq rfl))) (fun _ H2 e => kk H2 e) fun h => by rw [decide_eq_true rfl] at h; cases h
    rcases sized_cases (stm_yes hst) with ⟨a, rfl⟩ | ⟨a, rfl⟩ | ⟨a, rfl⟩ | ⟨a, b, rfl⟩ | ⟨a, b, rfl⟩ | ⟨a, b, rfl⟩ | ⟨a, b, e, rfl⟩
    · obtain ⟨t, va, rfl, s, pa⟩ := items2 hd
      replace s := ex_t e0 s
      refine skip rfl s (by decide) fun H3 e3 => skip rfl (ex_t e3 s) (by decide) fun H4 e4 => skip rfl (ex_t (e3.trans e4) s) (by decide) fun H5 e5 => skip rfl (ex_t ((e3.trans e4).trans e5) s) (by decide) fun H6 e6 => ?_
      exact s_retL (el_lst ea_nil (by decide)) fun B H7 nB e7 hB => q B [] H7 ((((e3.trans e4).trans e5).trans e6).trans e7) (sq_of hB) .nil
    · obtain ⟨t, va, rfl, s, pa⟩ := items2 hd
      replace s := ex_t e0 s
      refine skip rfl s (by decide) fun H3 e3 => here rfl (ex_t e3 s) fun H4 e4 => ?_
      have e34 := e3.trans e4
      exact s_retL (el_lst (ea_cons (ev_at (j := 1) (ev_var rfl) (ex_t e34 s) rfl) ea_nil) (by show 1 ≤ 100000; decide)) fun B H7 nB e7 hB => q B [va] H7 (e34.trans e7) (sq_of hB) (.cons pa .nil)
    · obtain ⟨t, va, rfl, s, pa⟩ := items2 hd
      replace s := ex_t e0 s
      refine skip rfl s (by decide) fun H3 e3 => skip rfl (ex_t e3 s) (by decide) fun H4 e4 => skip rfl (ex_t (e3.trans e4) s) (by decide) fun H5 e5 => skip rfl (ex_t ((e3.trans e4).trans e5) s) (by decide) fun H6 e6 => ?_
      exact s_retL (el_lst ea_nil (by decide)) fun B H7 nB e7 hB => q B [] H7 ((((e3.trans e4).trans e5).trans e6).trans e7) (sq_of hB) .nil
    · obtain ⟨t, va, vb, rfl, s, pa, pb⟩ := items3 hd
      replace s := ex_t e0 s
      refine skip rfl s (by decide) fun H3 e3 => skip rfl (ex_t e3 s) (by decide) fun H4 e4 => skip rfl (ex_t (e3.trans e4) s) (by decide) fun H5 e5 => skip rfl (ex_t ((e3.trans e4).trans e5) s) (by decide) fun H6 e6 => ?_
      exact s_retL (el_lst ea_nil (by decide)) fun B H7 nB e7 hB => q B [] H7 ((((e3.trans e4).trans e5).trans e6).trans e7) (sq_of hB) .nil
    · obtain ⟨t, va, vb, rfl, s, pa, pb⟩ := items3 hd
      replace s := ex_t e0 s
      refine here rfl s fun H3 e3 => ?_
      exact s_retL (el_lst (ea_cons (ev_at (j := 2) (ev_var rfl) (ex_t e3 s) rfl) ea_nil) (by show 1 ≤ 100000; decide)) fun B H7 nB e7 hB => q B [vb] H7 (e3.trans e7) (sq_of hB) (.cons pb .nil)
    · obtain ⟨t, va, vb, rfl, s, pa, pb⟩ := items3 hd
      replace s := ex_t e0 s
      refine skip rfl s (by decide) fun H3 e3 => skip rfl (ex_t e3 s) (by decide) fun H4 e4 => here rfl (ex_t (e3.trans e4) s) fun H5 e5 => ?_
      have e35 := (e3.trans e4).trans e5
      exact s_retL (el_lst (ea_cons (ev_at (j := 1) (ev_var rfl) (ex_t e35 s) rfl) (ea_cons (ev_at (j := 2) (ev_var rfl) (ex_t e35 s) rfl) ea_nil)) (by show 2 ≤ 100000; decide)) fun B H7 nB e7 hB => q B [va, vb] H7 (e35.trans e7) (sq_of hB) (.cons pa (.cons pb .nil))
    · obtain ⟨t, va, vb, ve, rfl, s, pa, pb, pe⟩ := items4 hd
      have hp : pairD e = true := by
        have : (btw 0 ((m : Int) - 1) a && (rowD c b && pairD e)) = true := hst
        rw [Bool.and_eq_true, Bool.and_eq_true] at this
        exact this.2.2
      obtain ⟨x, y, rfl⟩ := pair_t hp
      obtain ⟨L, xs, rfl, hs, hx⟩ := dp_lst pe
      replace s := ex_t e0 s
      refine skip rfl s (by decide) fun H3 e3 => skip rfl (ex_t e3 s) (by decide) fun H4 e4 => skip rfl (ex_t (e3.trans e4) s) (by decide) fun H5 e5 => here rfl (ex_t ((e3.trans e4).trans e5) s) fun H6 e6 => ?_
      have e36 := ((e3.trans e4).trans e5).trans e6
      exact s_ret (ev_at (j := 3) (ev_var rfl) (ex_t e36 s) rfl) fun H7 e7 => q L xs H7 (e36.trans e7) (ex_l (e0.trans (e36.trans e7)) hs) hx
end
/-! ### lists of data, made -/
section
variable {K : PySem.W.Frag} {σ : L2.St} {H H' : Hp} {te ta tb tk ts : TE} {W : Addr → Prop}
def EvLw (K : PySem.W.Frag) (W : Addr → Prop) (te : TE) (σ : L2.St) (H : Hp) (ds : List PyData) : Prop := ∀ H1, Ex H H1 → ∀ Q : VK, (∀ p xs H2, H1 p = none → Ex H1 H2 → H2 p = some (.lst xs) → DpAll K (Cw W H2) xs ds → Q (.ref p) H2) → te σ H1 Q
theorem lw_lst {tr : TA} {ds : List PyData} (h : EvDc K W tr σ H ds) (hl : ds.length ≤ 100000) : EvLw K W (tLst tr) σ H ds := fun H1 e Q q =>
  h H1 e _ fun vs H2 e2 g => ⟨sz_of (by rw [dpa_len g]; exact hl), fun p hp => q p vs _ (fresh_back e2 hp) (e2.trans (Ex.new hp)) upd_same (dpa_ex (cw_mono (Ex.new hp)) _ _ g)⟩
theorem lw_el {xs : List V} {ds : List PyData} (h : EvL te σ H xs) (hx : DpAll K (Cw W H) xs ds) : EvLw K W te σ H ds := fun H1 e Q q => h H1 e _ fun p H2 n e2 h2 => q p xs H2 n e2 h2 (dpa_ex (cw_mono (e.trans e2)) _ _ hx)
theorem lw_cat {ds es : List PyData} (h1 : EvLw K W ta σ H ds) (h2 : EvLw K W tb σ H es) (hl : ds.length + es.length ≤ 100000) : EvLw K W (tOp rCat ta tb) σ H (ds ++ es) := fun H1 e Q q =>
  h1 H1 e _ fun L xs H2 nL e2 hL gx => h2 H2 (e.trans e2) _ fun M ys H3 nM e3 hM gy => ⟨L, M, xs, ys, rfl, rfl, e3 _ _ hL, hM, sz_of (by rw [dpa_len gx, dpa_len gy]; exact hl), fun R nR =>
    q R _ _ (fresh_back (e2.trans e3) nR) ((e2.trans e3).trans (Ex.new nR)) upd_same (dpa_appJ (dpa_ex (cw_mono (e3.trans (Ex.new nR))) _ _ gx) (dpa_ex (cw_mono (Ex.new nR)) _ _ gy))⟩
theorem lw_ep {ds : List PyData} (hp : Has W H) (h : EvLw K W te σ H ds) : EvP te σ H (DPw K W (.list ds)) := fun H1 e Q q =>
  h H1 e _ fun p xs H2 n e2 hp2 g => q _ _ e2 (.lst (sq_of (cw_o hp2 (has_new (has_ex e hp) n))) g)
end
/-! ### lists of data out of variables and lists -/
section
variable {K : PySem.W.Frag} {σ : L2.St} {H H' : Hp} {te ta tb t4 t5 t6 t7 t8 : TE} {W : Addr → Prop}
def EvLd (K : PySem.W.Frag) (W : Addr → Prop) (te : TE) (σ : L2.St) (H : Hp) (ds : List PyData) : Prop := ∀ H1, Ex H H1 → ∀ Q : VK, (∀ p xs H2, Ex H1 H2 → Cw W H2 p = some (.lst xs) → DpAll K (Cw W H2) xs ds → Q (.ref p) H2) → te σ H1 Q
theorem ld_lw {ds : List PyData} (hp : Has W H) (h : EvLw K W te σ H ds) : EvLd K W te σ H ds := fun H1 e Q q => h H1 e _ fun p xs H2 n e2 hp2 g => q p xs H2 e2 (cw_o hp2 (has_new (has_ex e hp) n)) g
theorem ld_var {i : Nat} {p : Addr} {xs : List V} {ds : List PyData} (h : σ[i]? = some (some (.ref p))) (hp : Cw W H p = some (.lst xs)) (hx : DpAll K (Cw W H) xs ds) : EvLd K W (tVar i) σ H ds := fun H1 e Q q => ⟨.ref p, h, q p xs H1 (Ex.refl H1) (cw_mono e _ _ hp) (dpa_ex (cw_mono e) _ _ hx)⟩
theorem ld_cat {ds es : List PyData} (h1 : EvLd K W ta σ H ds) (h2 : EvLd K W tb σ H es) (hl : ds.length + es.length ≤ 100000) : EvLw K W (tOp rCat ta tb) σ H (ds ++ es) := fun H1 e Q q =>
  h1 H1 e _ fun L xs H2 e2 hL gx => h2 H2 (e.trans e2) _ fun M ys H3 e3 hM gy => ⟨L, M, xs, ys, rfl, rfl, e3 _ _ (cw_ne hL).2, (cw_ne hM).2, sz_of (by rw [dpa_len gx, dpa_len gy]; exact hl), fun R nR =>
    q R _ _ (fresh_back (e2.trans e3) nR) ((e2.trans e3).trans (Ex.new nR)) upd_same (dpa_appJ (dpa_ex (cw_mono (e3.trans (Ex.new nR))) _ _ gx) (dpa_ex (cw_mono (Ex.new nR)) _ _ gy))⟩
theorem lw_one {d : PyData} (h : EvP te σ H (DPw K W d)) : EvLw K W (tLst (tCons te tNil)) σ H [d] := lw_lst (edc_cons h edc_nil) (by show 1 ≤ 100000; decide)
end
open C8 (Mak pe_mk)
section
variable {P : Program} {w : World} {K : PySem.W.Frag} {mg : Str → Option Value} {base : Heap} {σ : L2.St} {H H' H0 : Hp}
def BkW (K : PySem.W.Frag) (W : Addr → Prop) (C : Addr) (c : Nat) (bo : List (List Stm)) (u : V) (H : Hp) : Prop := ∃ X vb, u = .ref X ∧ BkO C (Cw W H) X c vb ∧ Dp K (Cw W H) vb (toB bo)
theorem bkW_ex {W : Addr → Prop} {C : Addr} {c : Nat} {bo : List (List Stm)} {u : V} (e : Ex H H') (h : BkW K W C c bo u H) : BkW K W C c bo u H' := by
  obtain ⟨X, vb, rfl, ⟨d, hd⟩, hv⟩ := h
  exact ⟨X, vb, rfl, ⟨d, cw_mono e _ _ hd⟩, dp_ex (cw_mono e) _ _ hv⟩
def headV (bits : List Nat) (s' : Ls) : V := match s'.err with
  | some .long => .str "long"
  | some (.no _) => .str "no"
  | none => if s'.taken < bits.length then .str "no" else .str "run"
theorem head_at {u : V} {bits : List Nat} {r : Option Nat × Ls} (h : Dp K H u (lpD bits r)) : ∃ A xs, u = .ref A ∧ SqL K H A xs ∧ xs[0]? = some (headV bits r.2) := by
  rw [lpD] at h
  unfold headV
  cases he : r.2.err with
  | some z =>
    cases z with
    | long => rw [he] at h; obtain ⟨A, rfl, hA⟩ := lp1 h; exact ⟨A, _, rfl, hA, rfl⟩
    | no i => rw [he] at h; obtain ⟨A, rfl, hA⟩ := lp2 h; exact ⟨A, _, rfl, hA, rfl⟩
  | none =>
    rw [he] at h
    dsimp only at h ⊢
    by_cases ht : r.2.taken < bits.length
    · rw [if_pos ht] at h ⊢; obtain ⟨A, rfl, hA⟩ := lp2 h; exact ⟨A, _, rfl, hA, rfl⟩
    · rw [if_neg ht] at h ⊢; obtain ⟨A, T, rfl, hA, hT⟩ := lp5 h; exact ⟨A, _, rfl, hA, rfl⟩
theorem head_run {bits : List Nat} {s : Ls} : scal (headV bits s) (.str "run") = true ∧ (headV bits s = .str "run" → s.err = none ∧ bits.length ≤ s.taken) := by
  unfold headV
  cases he : s.err with
  | some z =>
    cases z with
    | long => exact ⟨rfl, fun y => absurd (show V.str (Str.ofString "long") = V.str (Str.ofString "run") from y) (by decide +kernel)⟩
    | no i => exact ⟨rfl, fun y => absurd (show V.str (Str.ofString "no") = V.str (Str.ofString "run") from y) (by decide +kernel)⟩
  | none =>
    dsimp only
    by_cases ht : s.taken < bits.length
    · rw [if_pos ht]; exact ⟨rfl, fun y => absurd y (by decide +kernel)⟩
    · rw [if_neg ht]; exact ⟨rfl, fun _ => ⟨rfl, by omega⟩⟩
theorem head_long {bits : List Nat} {s : Ls} : scal (headV bits s) (.str "long") = true ∧ (headV bits s ≠ .str "long" → s.err ≠ some .long) := by
  unfold headV
  cases he : s.err with
  | some z =>
    cases z with
    | long => exact ⟨rfl, fun y => absurd rfl y⟩
    | no i => exact ⟨rfl, fun _ y => (by cases y)⟩
  | none =>
    dsimp only
    by_cases ht : s.taken < bits.length
    · rw [if_pos ht]; exact ⟨rfl, fun _ y => (nomatch y)⟩
    · rw [if_neg ht]; exact ⟨rfl, fun _ y => (nomatch y)⟩
theorem head_scal {bits : List Nat} {s : Ls} {x : Str} : scal (headV bits s) (.str x) = true := by
  unfold headV
  cases s.err with
  | some z => cases z <;> rfl
  | none => dsimp only; split <;> rfl
theorem ep_bookK {W : Addr → Prop} {ok : Str → Prop} {C : Addr} {E : XK} {t tn : TE} {vN : V} {bo : List (List Stm)} {c m : Nat} (o7 : okWords ok) (hp : Has W H) (ht : Ev t σ H (.int (c : Int))) (hN : Ev tn σ H vN) (hdN : Dp K (Cw W H) vN (toB bo)) (hl : bo.length = m) (c1 : 1 ≤ c) (c3 : c ≤ 3) (m1 : 1 ≤ m) (m3 : m ≤ 3) (hok : ∀ b ∈ bo, okB c m b) :
    EvP (tMake C (spInit K ok C 15) [] E (tCons t (tCons tn tNil))) σ H (BkW K W C c bo) := fun H1 e Q q => ht H1 e _ fun H2 e2 => hN H2 (e.trans e2) _ fun H3 e3 => by
  intro X dx hX hdx ne
  have e13 := e.trans (e2.trans e3)
  have hX1 : (upd H3 dx (.own X)) X = none := by rw [upd_ne ne.symm]; exact hX
  refine ⟨X, dx, vN, bo.map bD, c, 14, H3, rfl, upd_same, hX, (Ex.new hdx).trans (Ex.new hX1), dp_ex (cw_ex.trans e13) _ _ hdN, toB_fit c3 (by omega) hok, rfl, c1, c3, toB_ok o7 hl m1 m3 hok, fun H5 e5 isb => ⟨rfl, ?_⟩⟩
  obtain ⟨dxx, vb, hX5, dqb⟩ := isb
  have hp3 := has_ex e13 hp
  exact q _ _ ((e2.trans e3).trans e5) ⟨X, vb, rfl, ⟨dxx, cw_o hX5 (has_new hp3 hX)⟩, dq_dp (N := fun _ => True) _ _ (dq_to (fun _ _ => trivial) (fun a o n ha => cw_o ha fun w => by
    obtain ⟨u, hu⟩ := hp3 _ w
    exact new_ne n ⟨u, hu⟩ rfl) _ _ dqb)⟩
end
abbrev s_law_endless : Stmt := topS 72
theorem sc_law_endless : FnScope ["block", "cells", "found", "statement", "blocks", "inner", "k"] ["block", "cells"] (defScope s_law_endless) := ⟨rfl, rfl, rfl, by decide +kernel, rfl, by decide +kernel, by decide +kernel⟩
/-! ### ends replaced by sets -/
section
variable {P : Program} {w : World} {K : PySem.W.Frag} {mg : Str → Option Value} {base : Heap} {σ : L2.St} {H H' : Hp} {te ta tb : TE} {W : Addr → Prop}
theorem dpw_ex9 {d : PyData} {v : V} (e : Ex H H') (h : DPw K W d v H) : DPw K W d v H' := dp_ex (cw_mono e) _ _ h
theorem epw_tupOf9 {ds : List PyData} {xs : List V} (hp : Has W H) (h : Ev te σ H (.ref a)) (hs : SqL K H a xs) (hx : DpAll K (Cw W H) xs ds) : EvP (tCB (fun xs H Q => ∃ p ys, xs = [.ref p] ∧ ((SqL K H p ys ∧ ∀ l, H l = none → Q (.ref l) (upd H l (.tup ys))) ∨ (SqT K H p ys ∧ Q (.ref p) H))) (tCons te tNil)) σ H (DPw K W (.tuple ds)) := fun H1 e Q q =>
  h H1 e _ fun H2 e2 => ⟨a, xs, rfl, .inl ⟨ex_l (e.trans e2) hs, fun T nT => q _ _ (e2.trans (Ex.new nT)) (.tup (st_of (cw_o upd_same (has_new (has_ex (e.trans e2) hp) nT))) (dpa_ex (cw_mono ((e.trans e2).trans (Ex.new nT))) _ _ hx))⟩⟩
theorem epw_cat9 {ds es : List PyData} (hp : Has W H) (h1 : EvP ta σ H (DPw K W (.tuple ds))) (h2 : EvP tb σ H (DPw K W (.tuple es))) (hd : ds ≠ []) (he : es ≠ []) (l : ds.length + es.length ≤ 1000) : EvP (tOp (rCatA K) ta tb) σ H (DPw K W (.tuple (ds ++ es))) := fun H1 e Q q =>
  h1 H1 e _ fun v H2 e2 d1 => h2 H2 (e.trans e2) _ fun w H3 e3 d2 => by
    obtain ⟨a, xs, rfl, sa, xa⟩ := dp_tup (dpw_ex9 e3 d1)
    obtain ⟨b, ys, rfl, sb, xb⟩ := dp_tup d2
    have lx := dpa_len xa
    have ly := dpa_len xb
    have hd' := List.length_pos_iff.mpr hd
    have he' := List.length_pos_iff.mpr he
    refine ⟨a, b, xs, ys, rfl, rfl, ex_t cw_ex sa, ex_t cw_ex sb, sz_of (by omega), fun h0 => ?_, fun _ h0 => ?_, fun _ _ T nT => ?_⟩
    · rw [h0] at lx; simp at lx; omega
    · rw [h0] at ly; simp at ly; omega
    · have eT := Ex.new (o := .tup (xs ++ ys)) nT
      exact q _ _ ((e2.trans e3).trans eT) (.tup (st_of (cw_o upd_same (has_new (has_ex ((e.trans e2).trans e3) hp) nT))) (dpa_appJ (dpa_ex (cw_mono eT) _ _ xa) (dpa_ex (cw_mono eT) _ _ xb)))
/-- tuple(list) -/
theorem epc_el9 {l : List Int} (hp : Has W H) (h : EvL te σ H (l.map V.int)) : EvP te σ H (DPw K W (LI l)) := fun H1 e Q q =>
  h H1 e _ fun L H2 nL e2 hL => q _ _ e2 (.lst (sq_of (cw_o hL (has_new (has_ex e hp) nL))) (dpa_ints l))
/-- l.append(e) -/
theorem s_appP {D : Ends} {Φ : V → Hp → Prop} {l : Addr} {xs : List V} (hl : H l = some (.lst xs)) (ha : Ev ta σ H (.ref l)) (he : EvP te σ H Φ) (hx : xs.length < 100000) (k : ∀ v H1, Ex H H1 → Φ v H1 → H1 l = some (.lst xs) → D.nx σ (upd H1 l (.lst (xs ++ [v])))) : tDrop (tBM K "list" rAppend ta (tCons te tNil)) D σ H :=
  ha H (Ex.refl H) _ fun H1 e1 => ⟨.inl ⟨rfl, _, sq_of (e1 _ _ hl)⟩, he H1 e1 _ fun v H2 e2 f => ⟨l, xs, v, rfl, rfl, (e1.trans e2) _ _ hl, sz_lt hx, k v H2 (e1.trans e2) f ((e1.trans e2) _ _ hl)⟩⟩
theorem take_next9 {α : Type} {l : List α} {i : Nat} {x : α} (h : l[i]? = some x) : l.take (i + 1) = l.take i ++ [x] := by rw [List.take_add_one, h]; rfl
def blkS : Stm → List (List Stm)
  | .keep _ b => [b]
  | .either a b => [a, b]
  | .again b => [b]
  | .call _ _ a b => [a, b]
  | _ => []
theorem blkS_D (x : Stm) : blocksD (toD x) = (blkS x).map bD := by
  cases x <;> rfl
def spEndl (K : PySem.W.Frag) (n : Nat) : Sp := fun vs H Q _ => ∃ (bv : V) (b : List Stm) (c m lv : Nat) (W : Addr → Prop), vs = [bv, .int (c : Int)] ∧ 1 ≤ n ∧ 4 ≤ lv + n ∧ Has W H ∧ Dp K (Cw W H) bv (bD b) ∧ okL c m b lv ∧ b.length ≤ 1000 ∧ c ≤ 3 ∧ ∀ (D : Addr) (ys : List V) (H' : Hp), Ex H H' → H' D = some (.lst ys) → ¬ W D → DpAll K (Cw W H') ys (toDs (enL c b)) → Q (.ref D) H'
theorem blkS_ok {c m lv : Nat} {x : Stm} (h : okS c m x lv) : ∀ b ∈ blkS x, lv < 3 ∧ okL c m b (lv + 1) ∧ b.length ≤ 8 := fun b hb => by
  cases x with
  | set k r => cases hb
  | carry r => cases hb
  | keep cs b0 => rw [okS] at h; rw [List.mem_singleton.mp hb]; exact ⟨h.1, h.2.2.2, h.2.2.1⟩
  | either a b0 =>
    rw [okS] at h
    rcases List.mem_cons.mp hb with rfl | hb
    · exact ⟨h.1, h.2.2.1, h.2.1⟩
    · rw [List.mem_singleton.mp hb]; exact ⟨h.1, h.2.2.2.2, h.2.2.2.1⟩
  | again b0 => rw [okS] at h; rw [List.mem_singleton.mp hb]; exact ⟨h.1, h.2.2, h.2.1⟩
  | call p r a b0 =>
    rw [okS] at h
    rcases List.mem_cons.mp hb with rfl | hb
    · exact ⟨h.1, h.2.2.2.2.1, h.2.2.2.1⟩
    · rw [List.mem_singleton.mp hb]; exact ⟨h.1, h.2.2.2.2.2.2, h.2.2.2.2.2.1⟩
  | fin w1 => cases hb
theorem bD_toDs (b : List Stm) : bD b = .list (toDs b) := rfl
theorem toDs_get : ∀ {b : List Stm} {i : Nat} {x : Stm}, b[i]? = some x → (toDs b)[i]? = some (toD x)
  | [], i, x, h => by cases h
  | y :: r, 0, x, h => by cases h; rfl
  | y :: r, i + 1, x, h => by rw [toDs]; exact toDs_get (b := r) h
theorem toDs_snoc : ∀ (a : List Stm) (x : Stm), toDs (a ++ [x]) = toDs a ++ [toD x]
  | [], x => rfl
  | y :: a, x => by rw [List.cons_append, toDs, toDs, toDs_snoc a x]; rfl
theorem enL_snoc (c : Nat) (a : List Stm) (x : Stm) : enL c (a ++ [x]) = enL c a ++ [enS c x] := by rw [enL_app, enL, enL]
theorem okL_mem9 {c m lv : Nat} : ∀ {b : List Stm}, okL c m b lv → ∀ x ∈ b, okS c m x lv
  | [], _, x, h => by cases h
  | y :: r, h, x, hx => by
    rw [okL] at h
    rcases List.mem_cons.mp hx with rfl | hx
    · exact h.1
    · exact okL_mem9 h.2 x hx
theorem ev_in2 {w : Str} (h : Ev te σ H (.str w)) : Ev (tOp (rIn K false) te (tLst (tCons (tC (.str "either")) (tCons (tC (.str "again")) tNil)))) σ H (.bl (inV (.str w) [.str "either", .str "again"])) := fun H1 e Q q =>
  h H1 e _ fun H2 e2 => ⟨by show 2 ≤ sizeLine; decide, fun L nL => ⟨L, _, rfl, .inl (sq_of upd_same), rfl, rfl, q _ (e2.trans (Ex.new nL))⟩⟩
theorem cw_updG {G : Addr} {o : HO} (h : W G) : Ex (Cw W H) (Cw W (upd H G o)) := fun a u ha => cw_o (by rw [upd_ne (fun z => (cw_ne ha).1 (by rw [z]; exact h))]; exact (cw_ne ha).2) (cw_ne ha).1
theorem cw_more {W2 : Addr → Prop} {H2 : Hp} {G : Addr} (hW : ∀ a, W2 a → W a ∨ a = G) (e : Ex H H2) (nG : H G = none) : Ex (Cw W H) (Cw W2 H2) := fun a u ha => cw_o (e _ _ (cw_ne ha).2) (fun z => (hW a z).elim (cw_ne ha).1 (fun z => by have := (cw_ne ha).2; rw [z, nG] at this; cases this))
theorem cw_less {W2 : Addr → Prop} (hW : ∀ a, W2 a → W a) : Ex (Cw W H) (Cw W2 H) := fun a u ha => cw_o (cw_ne ha).2 (fun z => (cw_ne ha).1 (hW a z))
theorem endless_step {f : Addr} {fd : FuncData} {n : Nat} (F : Fun K "_law_endless" "_law_endless" s_law_endless f fd) (z_range : mg "range" = none) (z_tuple : mg "tuple" = none) (C_law_blocks : Cal P w K mg base 1 "_law_blocks" (spLBlocks K) []) (C_law_endless : Cal P w K mg base (n + 1) "_law_endless" (spEndl K n) []) : FnOk P w K mg base CX0 (n + 2) f fd ["block", "cells"] (spEndl K (n + 1)) := by
  have sc := sc_law_endless
  refine F.ok sc (fun vs H Q E h => ?_) (fun cdv A outer s H vs Q E hr h => ?_)
  · obtain ⟨bv, b, c, m, lv, W, rfl, _⟩ := h
    rfl
  · obtain ⟨bv, b, c, m, lv, W, rfl, _, hn4, hW, hb, hok, hbl, c3, q⟩ := h
    refine ⟨_, (pss_cons (ps_set (i := 2) sc.nd rfl (by first | exact Or.inl rfl | exact Or.inr rfl) (pe_lst pa_nil))
      (pss_cons (ps_for PassesOwn.never rfl (pi_list (pv 0)) (pg_name (i := 3) sc.nd rfl (by first | exact Or.inl rfl | exact Or.inr rfl))
      (pss_cons (ps_setLc (i := 4) (own := [("inner", 5)]) (by rfl) sc.nd rfl rfl (sw_true rfl rfl rfl (by decide +kernel)) (pi_list (pe_c C_law_blocks hr (by omega) (by rfl) (pa_cons (pv 3) pa_nil))) (blkOk_by (own := [("inner", 5)]) (N := ["block", "cells", "found", "statement", "blocks", "inner", "k"]) (sc := defScope s_law_endless) (by decide +kernel)) (fun _ _ _ _ _ => (pg_name (i := 5) sc.nd rfl (by first | exact Or.inl rfl | exact Or.inr rfl))) (fun _ _ _ _ _ => pts_nil) (fun _ _ _ _ _ => (pe_c C_law_endless hr (by omega) (by rfl) (pa_cons (pv 5) (pa_cons (pv 1) pa_nil)))))
      (pss_one (ps_if (pt_cmpR op_eq (pe_ix ix_tup (pv 3) pe_int (fun _ _ => rfl)) pe_str (nomark _))
      (pss_one (ps_expr (pe_bm PySem.F.plainAttrs_list PySem.F.slot_list_append PySem.F.type_list_append mt_append (pv 2) (pa_cons (pe_tup (pa_cons pe_str (pa_cons pe_int (pa_cons (pe_op op_cat (pe_lst (pa_cons (pe_ix ix_tup (pv 3) pe_int (fun _ _ => rfl)) pa_nil)) (pe_lc (own := [("k", 6)]) (by rfl) sc.nd (pi_range1 (by rfl) z_range (pa_cons (pe_op op_add (pv 1) pe_int) pa_nil)) (blkOk_by (own := [("k", 6)]) (N := ["block", "cells", "found", "statement", "blocks", "inner", "k"]) (sc := defScope s_law_endless) (by decide +kernel)) (fun _ _ _ _ _ => (pg_name (i := 6) sc.nd rfl (by first | exact Or.inl rfl | exact Or.inr rfl))) (fun _ _ _ _ _ => pts_nil) (fun _ _ _ _ _ => pe_int))) pa_nil)))) pa_nil))))
      (pss_one (ps_if (pt_cmpR op_eq (pe_ix ix_tup (pv 3) pe_int (fun _ _ => rfl)) pe_str (nomark _))
      (pss_one (ps_expr (pe_bm PySem.F.plainAttrs_list PySem.F.slot_list_append PySem.F.type_list_append mt_append (pv 2) (pa_cons (pe_tup (pa_cons pe_str (pa_cons (pe_ix ix_tup (pv 3) pe_int (fun _ _ => rfl)) (pa_cons (pe_ix ix_list (pv 4) pe_int (fun _ _ => rfl)) pa_nil)))) pa_nil))))
      (pss_one (ps_if (pt_cmpR op_eq (pe_ix ix_tup (pv 3) pe_int (fun _ _ => rfl)) pe_str (nomark _))
      (pss_one (ps_expr (pe_bm PySem.F.plainAttrs_list PySem.F.slot_list_append PySem.F.type_list_append mt_append (pv 2) (pa_cons (pe_tup (pa_cons pe_str (pa_cons (pe_ix ix_tup (pv 3) pe_int (fun _ _ => rfl)) (pa_cons (pe_ix ix_tup (pv 3) pe_int (fun _ _ => rfl)) (pa_cons (pv 4) pa_nil))))) pa_nil))))
      (pss_one (ps_if (pt_cmpR op_in_seq (pe_ix ix_tup (pv 3) pe_int (fun _ _ => rfl)) (pe_lst (pa_cons pe_str (pa_cons pe_str pa_nil))) (by rfl))
      (pss_one (ps_expr (pe_bm PySem.F.plainAttrs_list PySem.F.slot_list_append PySem.F.type_list_append mt_append (pv 2) (pa_cons (pe_op op_catA (pe_tup (pa_cons (pe_ix ix_tup (pv 3) pe_int (fun _ _ => rfl)) pa_nil)) (pe_callTy call_tuple_of (by rfl) z_tuple (by decide +kernel) (pa_cons (pv 4) pa_nil))) pa_nil))))
      (pss_one (ps_expr (pe_bm PySem.F.plainAttrs_list PySem.F.slot_list_append PySem.F.type_list_append mt_append (pv 2) (pa_cons (pv 3) pa_nil))))))))))))))
      (pss_one (ps_ret (pv 2))))), ?_⟩
    obtain ⟨Bv, bxs, rfl, sB, hx⟩ := dp_lst hb
    refine q_run ?_
    refine ⟨by show 0 ≤ sizeLine; decide, fun D nD => ?_⟩
    have eD := Ex.new (o := .lst []) nD
    have hD0 : (upd H D (.lst [])) D = some (.lst []) := upd_same
    have sB1 : SqL K H Bv bxs := ex_l cw_ex sB
    show tSeq _ _ _ [some (.ref Bv), some (.int (c : Int)), some (.ref D), none, none, none, none] _
    have hW1 : Has (fun a => W a ∨ a = D) (upd H D (.lst [])) := fun a h => h.elim (fun h => has_ex eD hW a h) (fun h => ⟨_, (congrArg (upd H D (.lst [])) h).trans hD0⟩)
    have hx1 : DpAll K (Cw (fun a => W a ∨ a = D) (upd H D (.lst []))) bxs (toDs b) := dpa_ex (fun a o h => cw_o (eD _ _ (cw_ne h).2) (fun z => z.elim (cw_ne h).1 (fun z => by have h2 := (cw_ne h).2; rw [z, nD] at h2; cases h2))) _ _ hx
    generalize upd H D (.lst []) = H1 at eD hD0 hW1 hx1 ⊢
    have lbx : bxs.length = b.length := by rw [dpa_len hx, toDs_len]
    refine q_forL (ev_var rfl) (ex_l eD sB1) (fun i σ' H' => ∃ (y3 y4 : Option V) (ys : List V), σ' = [some (.ref Bv), some (.int (c : Int)), some (.ref D), y3, y4, none, none] ∧ Ex H H' ∧ Ex (Cw (fun a => W a ∨ a = D) H1) (Cw (fun a => W a ∨ a = D) H') ∧ Has (fun a => W a ∨ a = D) H' ∧ H' D = some (.lst ys) ∧ ys.length = i ∧ DpAll K (Cw (fun a => W a ∨ a = D) H') ys (toDs (enL c (b.take i)))) (fun Ha ea => ⟨_, _, [], rfl, eD.trans ea, cw_mono ea, has_ex ea hW1, ea _ _ hD0, rfl, by rw [List.take_zero, enL]; exact .nil⟩) (fun i σ' H' _ ⟨_, _, _, _, e, _⟩ => ex_l e sB1) (fun i x σ' H' hxi hP => ?_) (fun σ' H' hP => ?_)
    · obtain ⟨y3, y4, ys, rfl, e, eC, hWn, hD, hl, hy⟩ := hP
      have hi : i < b.length := by rw [← lbx]; exact (List.getElem?_eq_some_iff.mp hxi).1
      have hbi : b[i]? = some b[i] := List.getElem?_eq_getElem hi
      have hs := okL_mem9 hok b[i] (List.getElem_mem hi)
      have htk : b.take (i + 1) = b.take i ++ [b[i]] := by rw [List.take_add_one, hbi]; rfl
      obtain ⟨d', hd', hdx⟩ := dpa_at2 hx1 hxi
      rw [toDs_get hbi] at hd'
      cases hd'
      generalize b[i] = st at hs htk hdx
      have hdx2 := dp_ex eC _ _ hdx
      show tSeq _ _ _ [some (.ref Bv), some (.int (c : Int)), some (.ref D), some x, y4, none, none] H'
      refine q_run ?_
      refine ⟨x, rfl, x, toD st, c, m, Cw (fun a => W a ∨ a = D) H', rfl, cw_ex, hdx2, stm_okD hs, fun B bs H2 e2 hBs hbs => ?_⟩
      rw [blkS_D] at hbs
      refine ⟨B, rfl, ⟨bs, hBs⟩, fun G nG => ?_⟩
      have nG' : H' G = none := fresh_back e2 nG
      refine lc_list (fun j H3 => ∃ zs, Ex H2 H3 ∧ H3 G = some (.lst zs) ∧ zs.length = j ∧ DpAll K (Cw (fun a => (W a ∨ a = D) ∨ a = G) H3) zs (((blkS st).take j).map fun b => bD (enL c b))) ⟨[], Ex.new nG, upd_same, rfl, .nil⟩ (fun j H3 _ ⟨_, e, _, _⟩ => ex_l e hBs) (fun j y H3 hyj hQ => ?_) (fun H3 hQ => ?_)
      · obtain ⟨zs, e3, hG, hzl, hz⟩ := hQ
        obtain ⟨d2, hd2, hdy⟩ := dpa_at2 hbs hyj
        rw [List.getElem?_map] at hd2
        obtain ⟨bb, hbb, rfl⟩ := Option.map_eq_some_iff.mp hd2
        obtain ⟨lv3, okb, lb8⟩ := blkS_ok hs bb (List.mem_of_getElem? hbb)
        have hdy2 : Dp K (Cw (fun a => (W a ∨ a = D) ∨ a = G) H3) y (bD bb) := dp_ex (cw_more (fun a z => z) (e2.trans e3) nG') _ _ hdy
        have hW3 : Has (fun a => (W a ∨ a = D) ∨ a = G) H3 := fun a h => h.elim (fun h => has_ex (e2.trans e3) hWn a h) (fun h => ⟨_, (congrArg H3 h).trans hG⟩)
        have hj4 : j < 2 + 1 := by
          have h1 := (List.getElem?_eq_some_iff.mp hbb).1
          have : (blkS st).length ≤ 2 := by cases st <;> exact Nat.le_of_ble_eq_true rfl
          omega
        show wipe ((wipe _ _).set 5 (some y)) _ = wipe _ _ ∧ _
        refine ⟨rfl, y, rfl, .int (c : Int), rfl, y, bb, c, m, lv + 1, _, rfl, by omega, by omega, hW3, hdy2, okb, by omega, c3, fun u ys4 H4 e4 hu1 hu2 hu3 => ⟨zs, e4 _ _ hG, sz_lt (by omega), zs ++ [.ref u], (e3.trans e4).mut nG, upd_same, by rw [List.length_append, hzl]; rfl, ?_⟩⟩
        rw [take_next9 hbb, List.map_append]
        exact dpa_appJ (dpa_ex ((cw_mono e4).trans (cw_updG (.inr rfl))) _ _ hz) (.cons (dp_ex (cw_updG (.inr rfl)) _ _ (.lst (sq_of (cw_o hu1 hu2)) hu3)) .nil)
      · obtain ⟨zs, e3, hG, hzl, hz⟩ := hQ
        have lbs : bs.length = (blkS st).length := by rw [dpa_len hbs, List.length_map]
        rw [List.take_of_length_le (by omega)] at hz
        have e23 := e2.trans e3
        have hzs : DpAll K (Cw (fun a => W a ∨ a = D) H3) zs ((blkS st).map fun b => bD (enL c b)) := dpa_ex (cw_less fun a z => .inl z) _ _ hz
        have hd3 := dp_ex (cw_mono e23) _ _ hdx2
        have hW3 := has_ex e23 hWn
        have hD3 := e23 _ _ hD
        have fin : ∀ {u : V} {Hz : Hp}, Ex H3 Hz → Dp K (Cw (fun a => W a ∨ a = D) Hz) u (toD (enS c st)) → Hz D = some (.lst ys) → ∃ (z3 z4 : Option V) (zz : List V), [some (V.ref Bv), some (.int (c : Int)), some (.ref D), some x, some (.ref G), none, none] = [some (.ref Bv), some (.int (c : Int)), some (.ref D), z3, z4, none, none] ∧ Ex H (upd Hz D (.lst (ys ++ [u]))) ∧ Ex (Cw (fun a => W a ∨ a = D) H1) (Cw (fun a => W a ∨ a = D) (upd Hz D (.lst (ys ++ [u])))) ∧ Has (fun a => W a ∨ a = D) (upd Hz D (.lst (ys ++ [u]))) ∧ (upd Hz D (.lst (ys ++ [u]))) D = some (.lst zz) ∧ zz.length = i + 1 ∧ DpAll K (Cw (fun a => W a ∨ a = D) (upd Hz D (.lst (ys ++ [u])))) zz (toDs (enL c (b.take (i + 1)))) := fun {u Hz} ez hu hDz => by
          refine ⟨_, _, ys ++ [u], rfl, (e.trans (e23.trans ez)).mut nD, (eC.trans (cw_mono (e23.trans ez))).trans (cw_updG (.inr rfl)), fun a h => ?_, upd_same, by rw [List.length_append, hl]; rfl, ?_⟩
          · by_cases ha : a = D
            · exact ⟨_, by rw [ha]; exact upd_same⟩
            · rw [upd_ne ha]; exact has_ex ez hW3 a h
          · rw [htk, enL_snoc, toDs_snoc]
            exact dpa_appJ (dpa_ex ((cw_mono (e23.trans ez)).trans (cw_updG (.inr rfl))) _ _ hy) (.cons (dp_ex (cw_updG (.inr rfl)) _ _ hu) .nil)
        have hyl : ys.length < 100000 := by omega
        have Gn : ¬ (W G ∨ G = D) := fun z => by
          obtain ⟨u, hu⟩ := hWn G z
          rw [nG'] at hu; cases hu
        have bl : ∀ {Hz : Hp}, Ex H3 Hz → Dp K (Cw (fun a => W a ∨ a = D) Hz) (.ref G) (.list ((blkS st).map fun b => bD (enL c b))) := fun ez => .lst (sq_of (cw_o (ez _ _ hG) Gn)) (dpa_ex (cw_mono ez) _ _ hzs)
        have wd : ∀ {T : Addr} {w y : Str} {r : List V} {Hz : Hp}, SqT K H3 T (.str w :: r) → x = .ref T → Ex H3 Hz → EvT (tTest (tOp rEq (tOp (rIxT K) (tVar 3) (tC (.int 0))) (tC (.str y)))) [some (.ref Bv), some (.int (c : Int)), some (.ref D), some x, some (.ref G), none, none] Hz (decide (V.str w = V.str y)) := fun {T w y r Hz} hT hx ez => et_test (ev_op (ev_at (j := 0) (ev_var (by rw [hx]; rfl)) (ex_t ez hT) rfl) ev_c (rv_eq rfl))
        have wi : ∀ {T : Addr} {w : Str} {r : List V} {Hz : Hp}, SqT K H3 T (.str w :: r) → x = .ref T → Ex H3 Hz → EvT (tTest (tOp (rIn K false) (tOp (rIxT K) (tVar 3) (tC (.int 0))) (tLst (tCons (tC (.str "either")) (tCons (tC (.str "again")) tNil))))) [some (.ref Bv), some (.int (c : Int)), some (.ref D), some x, some (.ref G), none, none] Hz (inV (.str w) [.str "either", .str "again"]) := fun {T w r Hz} hT hx ez => et_test (ev_in2 (ev_at (j := 0) (ev_var (by rw [hx]; rfl)) (ex_t ez hT) rfl))
        show tIfS _ _ _ _ [some (.ref Bv), some (.int (c : Int)), some (.ref D), some x, some (.ref G), none, none] H3
        cases st with
        | set k r =>
          obtain ⟨T, xs, hxT, sT, hxs⟩ := dp_tup hd3
          cases hxs with
          | cons h1 hxs =>
          cases h1
          have sT3 := ex_t cw_ex sT
          refine s_if (b := false) (et_is (wd sT3 hxT (Ex.refl _)) (by decide +kernel)) (fun z => (nomatch z)) fun _ H4 e4 => ?_
          refine s_if (b := false) (et_is (wd sT3 hxT e4) (by decide +kernel)) (fun z => (nomatch z)) fun _ H5 e5 => ?_
          refine s_if (b := false) (et_is (wd sT3 hxT (e4.trans e5)) (by decide +kernel)) (fun z => (nomatch z)) fun _ H6 e6 => ?_
          refine s_if (b := false) (et_is (wi sT3 hxT ((e4.trans e5).trans e6)) (by decide +kernel)) (fun z => (nomatch z)) fun _ H7 e7 => ?_
          have e37 := ((e4.trans e5).trans e6).trans e7
          exact s_appP (e37 _ _ hD3) (ev_var rfl) (epc_ev (W := fun a => W a ∨ a = D) (ev_var rfl) (dp_ex (cw_mono e37) _ _ hd3)) hyl fun v H8 e8 hv hD8 => fin (e37.trans e8) (by rw [enS]; exact hv) hD8
        | carry r =>
          obtain ⟨T, xs, hxT, sT, hxs⟩ := dp_tup hd3
          cases hxs with
          | cons h1 hxs =>
          cases h1
          have sT3 := ex_t cw_ex sT
          refine s_if (b := false) (et_is (wd sT3 hxT (Ex.refl _)) (by decide +kernel)) (fun z => (nomatch z)) fun _ H4 e4 => ?_
          refine s_if (b := false) (et_is (wd sT3 hxT e4) (by decide +kernel)) (fun z => (nomatch z)) fun _ H5 e5 => ?_
          refine s_if (b := false) (et_is (wd sT3 hxT (e4.trans e5)) (by decide +kernel)) (fun z => (nomatch z)) fun _ H6 e6 => ?_
          refine s_if (b := false) (et_is (wi sT3 hxT ((e4.trans e5).trans e6)) (by decide +kernel)) (fun z => (nomatch z)) fun _ H7 e7 => ?_
          have e37 := ((e4.trans e5).trans e6).trans e7
          exact s_appP (e37 _ _ hD3) (ev_var rfl) (epc_ev (W := fun a => W a ∨ a = D) (ev_var rfl) (dp_ex (cw_mono e37) _ _ hd3)) hyl fun v H8 e8 hv hD8 => fin (e37.trans e8) (by rw [enS]; exact hv) hD8
        | fin w1 =>
          obtain ⟨T, xs, hxT, sT, hxs⟩ := dp_tup hd3
          cases hxs with
          | cons h1 hxs =>
          cases hxs with
          | cons h2 hxs =>
          cases hxs
          cases h1
          cases h2
          have sT3 := ex_t cw_ex sT
          refine s_if (b := true) (et_is (wd sT3 hxT (Ex.refl _)) (by decide +kernel)) (fun _ H4 e4 => ?_) (fun z => (nomatch z))
          have hp4 := has_ex e4 hW3
          exact s_appP (e4 _ _ hD3) (ev_var rfl) (epc_tup hp4 (edc_cons (epc_ev ev_c (.str "set")) (edc_cons (epc_ev ev_c (.int 0)) (edc_cons (epc_el9 (l := (w1 : Int) :: List.replicate (c + 1) 0) hp4 (el_is (el_catL (el_lst (ea_cons (ev_at (j := 1) (ev_var (by rw [hxT]; rfl)) (ex_t e4 sT3) rfl) ea_nil) (by show 1 ≤ 100000; decide)) (el_rng (n := c + 1) (fun _ => V.int 0) (ea_cons (ev_is (w := V.int ((c + 1 : Nat) : Int)) (ev_op (ev_var rfl) ev_c rv_I0) (by rw [Int.natCast_add]; rfl)) ea_nil) (by omega) (fun _ => rfl) fun _ _ _ _ => ev_c) (by rw [List.length_map, List.length_range]; show 1 + (c + 1) ≤ _; omega)) (by rw [zero_list]; rfl))) edc_nil))) (by show 3 ≤ 100000; decide)) hyl fun v H8 e8 hv hD8 => fin (e4.trans e8) (by rw [enS]; exact hv) hD8
        | keep cs b0 =>
          obtain ⟨T, xs, hxT, sT, hxs⟩ := dp_tup hd3
          cases hxs with
          | cons h1 hxs =>
          cases hxs with
          | cons h2 hxs =>
          cases h1
          have sT3 := ex_t cw_ex sT
          obtain ⟨z0, rfl⟩ : ∃ z0, zs = [z0] := List.length_eq_one_iff.mp (by rw [hzl, lbs]; rfl)
          cases hzs with
          | cons hz0 _ =>
          refine s_if (b := false) (et_is (wd sT3 hxT (Ex.refl _)) (by decide +kernel)) (fun z => (nomatch z)) fun _ H4 e4 => ?_
          refine s_if (b := true) (et_is (wd sT3 hxT e4) (by decide +kernel)) (fun _ H5 e5 => ?_) (fun z => (nomatch z))
          have e35 := e4.trans e5
          have hp5 := has_ex e35 hW3
          exact s_appP (e35 _ _ hD3) (ev_var rfl) (epc_tup hp5 (edc_cons (epc_ev ev_c (.str "keep")) (edc_cons (epc_ev (ev_at (j := 1) (ev_var (by rw [hxT]; rfl)) (ex_t e35 sT3) rfl) (dp_ex (cw_mono e35) _ _ h2)) (edc_cons (epc_ev (ev_op (ev_var rfl) ev_c (rv_ixL (sq_of (e35 _ _ hG)) (atI_nat (j := 0) rfl))) (dp_ex (cw_mono e35) _ _ hz0)) edc_nil))) (by show 3 ≤ 100000; decide)) hyl fun v H8 e8 hv hD8 => fin (e35.trans e8) (by rw [enS]; exact hv) hD8
        | call p0 r a0 b0 =>
          obtain ⟨T, xs, hxT, sT, hxs⟩ := dp_tup hd3
          cases hxs with
          | cons h1 hxs =>
          cases hxs with
          | cons h2 hxs =>
          cases hxs with
          | cons h3 hxs =>
          cases h1
          have sT3 := ex_t cw_ex sT
          refine s_if (b := false) (et_is (wd sT3 hxT (Ex.refl _)) (by decide +kernel)) (fun z => (nomatch z)) fun _ H4 e4 => ?_
          refine s_if (b := false) (et_is (wd sT3 hxT e4) (by decide +kernel)) (fun z => (nomatch z)) fun _ H5 e5 => ?_
          refine s_if (b := true) (et_is (wd sT3 hxT (e4.trans e5)) (by decide +kernel)) (fun _ H6 e6 => ?_) (fun z => (nomatch z))
          have e36 := (e4.trans e5).trans e6
          have hp6 := has_ex e36 hW3
          exact s_appP (e36 _ _ hD3) (ev_var rfl) (epc_tup hp6 (edc_cons (epc_ev ev_c (.str "call")) (edc_cons (epc_ev (ev_at (j := 1) (ev_var (by rw [hxT]; rfl)) (ex_t e36 sT3) rfl) (dp_ex (cw_mono e36) _ _ h2)) (edc_cons (epc_ev (ev_at (j := 2) (ev_var (by rw [hxT]; rfl)) (ex_t e36 sT3) rfl) (dp_ex (cw_mono e36) _ _ h3)) (edc_cons (epc_ev (ev_var rfl) (bl e36)) edc_nil)))) (by show 4 ≤ 100000; decide)) hyl fun v H8 e8 hv hD8 => fin (e36.trans e8) (by rw [enS]; exact hv) hD8
        | either a0 b0 =>
          obtain ⟨T, xs, hxT, sT, hxs⟩ := dp_tup hd3
          cases hxs with
          | cons h1 hxs =>
          cases h1
          have sT3 := ex_t cw_ex sT
          refine s_if (b := false) (et_is (wd sT3 hxT (Ex.refl _)) (by decide +kernel)) (fun z => (nomatch z)) fun _ H4 e4 => ?_
          refine s_if (b := false) (et_is (wd sT3 hxT e4) (by decide +kernel)) (fun z => (nomatch z)) fun _ H5 e5 => ?_
          refine s_if (b := false) (et_is (wd sT3 hxT (e4.trans e5)) (by decide +kernel)) (fun z => (nomatch z)) fun _ H6 e6 => ?_
          refine s_if (b := true) (et_is (wi sT3 hxT ((e4.trans e5).trans e6)) (by decide +kernel)) (fun _ H7 e7 => ?_) (fun z => (nomatch z))
          have e37 := ((e4.trans e5).trans e6).trans e7
          have hp7 := has_ex e37 hW3
          exact s_appP (e37 _ _ hD3) (ev_var rfl) (epw_cat9 (ds := [.str "either"]) hp7 (epc_tup hp7 (edc_cons (epc_ev (ev_at (j := 0) (ev_var (by rw [hxT]; rfl)) (ex_t e37 sT3) rfl) (.str "either")) edc_nil) (by show 1 ≤ 100000; decide)) (epw_tupOf9 hp7 (ev_var rfl) (sq_of (e37 _ _ hG)) (dpa_ex (cw_mono e37) _ _ hzs)) (by intro z; cases z) (by intro z; cases z) (by show 1 + 2 ≤ 1000; decide)) hyl fun v H8 e8 hv hD8 => fin (e37.trans e8) (by rw [enS]; exact hv) hD8
        | again b0 =>
          obtain ⟨T, xs, hxT, sT, hxs⟩ := dp_tup hd3
          cases hxs with
          | cons h1 hxs =>
          cases h1
          have sT3 := ex_t cw_ex sT
          refine s_if (b := false) (et_is (wd sT3 hxT (Ex.refl _)) (by decide +kernel)) (fun z => (nomatch z)) fun _ H4 e4 => ?_
          refine s_if (b := false) (et_is (wd sT3 hxT e4) (by decide +kernel)) (fun z => (nomatch z)) fun _ H5 e5 => ?_
          refine s_if (b := false) (et_is (wd sT3 hxT (e4.trans e5)) (by decide +kernel)) (fun z => (nomatch z)) fun _ H6 e6 => ?_
          refine s_if (b := true) (et_is (wi sT3 hxT ((e4.trans e5).trans e6)) (by decide +kernel)) (fun _ H7 e7 => ?_) (fun z => (nomatch z))
          have e37 := ((e4.trans e5).trans e6).trans e7
          have hp7 := has_ex e37 hW3
          exact s_appP (e37 _ _ hD3) (ev_var rfl) (epw_cat9 (ds := [.str "again"]) hp7 (epc_tup hp7 (edc_cons (epc_ev (ev_at (j := 0) (ev_var (by rw [hxT]; rfl)) (ex_t e37 sT3) rfl) (.str "again")) edc_nil) (by show 1 ≤ 100000; decide)) (epw_tupOf9 hp7 (ev_var rfl) (sq_of (e37 _ _ hG)) (dpa_ex (cw_mono e37) _ _ hzs)) (by intro z; cases z) (by intro z; cases z) (by show 1 + 1 ≤ 1000; decide)) hyl fun v H8 e8 hv hD8 => fin (e37.trans e8) (by rw [enS]; exact hv) hD8
    · obtain ⟨y3, y4, ys, rfl, e, _, _, hD, hl, hy⟩ := hP
      rw [List.take_of_length_le (by omega)] at hy
      have hD2 : ¬ W D := has_new hW nD
      exact s_ret (ev_var rfl) fun H2 e2 => q D ys H2 (e.trans e2) (e2 _ _ hD) hD2 (dpa_ex (fun a o h => cw_o (e2 _ _ (cw_ne h).2) (fun z => (cw_ne h).1 (.inl z))) _ _ hy)
theorem ok_endless {f : Addr} {fd : FuncData} (F : Fun K "_law_endless" "_law_endless" s_law_endless f fd) (g : mg "_law_endless" = some (.ref f)) (b : Binds K fd ["block", "cells"] []) (z_range : mg "range" = none) (z_tuple : mg "tuple" = none) (C_law_blocks : Cal P w K mg base 1 "_law_blocks" (spLBlocks K) []) : ∀ n, FnOk P w K mg base CX0 (n + 1) f fd ["block", "cells"] (spEndl K n)
  | 0 => ⟨fun _ _ _ _ ⟨_, _, _, _, _, _, _, h, _⟩ => absurd h (by decide), fun _ _ _ _ _ _ _ _ _ _ _ _ _ ⟨_, _, _, _, _, _, _, h, _⟩ => absurd h (by decide)⟩
  | n + 1 => endless_step F z_range z_tuple C_law_blocks ⟨f, fd, _, [], ok_endless F g b z_range z_tuple C_law_blocks n, g, F.kp, b, .nil⟩
end
abbrev s_law_asked : Stmt := topS 73
theorem sc_law_asked : FnScope ["book", "bits", "start", "load", "told", "e"] ["book", "bits", "start", "load"] (defScope s_law_asked) := ⟨rfl, rfl, rfl, by decide +kernel, rfl, by decide +kernel, by decide +kernel⟩
/-! ### what is due, asked (four arguments) -/
section
variable {P : Program} {w : World} {K : PySem.W.Frag} {mg : Str → Option Value} {base : Heap} {σ : L2.St} {Hd Hd' H H' H0 : Hp} {ta tb : TE}
/-- what is due of a list of bits -/
def DueD (c : Nat) (bo : List (List Stm)) (p : Nat) (bits : List Nat) (v : List Int) (l : Int) (d : PyData) : Prop :=
  (∃ i, Run1 c bo p bits (.error i) ∧ d = .list [.str "no", .int i]) ∨
  (∃ (sC : Cf) (st : List Int) (ld : Int), Run1 c bo p bits (.ok sC) ∧ behB sC.steps (vecL 1 v l) = vecL 1 st ld ∧ st.length = c ∧ d = .list [.str "run", .int (sC.way : Int), .tuple (st.map PyData.int), .int ld, .int (sC.len : Int)])
theorem due_run {c p : Nat} {bo : List (List Stm)} {bits : List Nat} {v : List Int} {l : Int} {wy : Option Nat} {s' : Ls} {r : Except Int Cf} (h : RunL c bo p bits v l wy s' r) (hn : s'.err ≠ some .long) (hs : s'.stand.length = c) : DueD c bo p bits v l (lpD bits (wy, s')) := by
  rw [lpD]
  dsimp only
  cases he : s'.err with
  | some z =>
    cases z with
    | long => exact absurd he hn
    | no j => exact .inl ⟨j, by rw [← h.no j he]; exact h.run, rfl⟩
  | none =>
    dsimp only
    by_cases ht : s'.taken < bits.length
    · rw [if_pos ht]
      exact .inl ⟨_, by rw [← h.short he ht]; exact h.run, rfl⟩
    · obtain ⟨s2, hr, hw, hl, hb⟩ := h.ok he ht
      rw [if_neg ht]
      exact .inr ⟨s2, s'.stand, s'.load, by rw [← hr]; exact h.run, hb, hs, by rw [hw, ← hl]; rfl⟩
theorem btw_prD {n p : Nat} (h : p < n) : btw 0 ((n : Int) - 1) (.int (p : Int)) = true := by
  rw [btw, decide_eq_true (by omega), decide_eq_true (by omega)]; rfl
theorem bd_stK {c : Nat} {st : List Int} (h : st.length = c) : boardD c (.tuple (st.map PyData.int)) = true ∧ bdOf c (.tuple (st.map PyData.int)) = some st := by
  have h1 : boardD c (.tuple (st.map PyData.int)) = true := by
    rw [boardD, List.length_map, decide_eq_true h, Bool.true_and, List.all_map, List.all_eq_true]
    exact fun x _ => rfl
  refine ⟨h1, ?_⟩
  rw [bdOf_some (by intro z; cases z) h1, intsD, List.map_map]
  congr 1
  exact List.map_id'' (fun _ => rfl) st
theorem play_parts {c : Nat} {sC : Cf} {b st : List Int} {n l : Int} {u : V} (h : Dp K H u (playD c sC b n)) (hb : behB sC.steps (vecL 1 b n) = vecL 1 st l) (hl : st.length = c) : ∃ A Tb, u = .ref A ∧ SqT K H A [.int (sC.way : Int), .ref Tb, .int l, .int (sC.len : Int)] ∧ SqT K H Tb (st.map V.int) := by
  have hb' : behB sC.steps (1 :: (b ++ [n])) = vecL 1 st l := hb
  rw [playD, hb', vec_getl hl] at h
  have hd : ((vecL 1 st l).drop 1).take c = st := by
    show (st ++ [l]).take c = st
    rw [List.take_append_of_le_length (by omega), List.take_of_length_le (by omega)]
  rw [hd] at h
  obtain ⟨A, xs, rfl, sA, hx⟩ := dp_tup h
  cases hx with
  | cons h1 hx =>
    cases hx with
    | cons h2 hx =>
      cases hx with
      | cons h3 hx =>
        cases hx with
        | cons h4 hx =>
          cases hx
          cases h1
          cases h3
          cases h4
          obtain ⟨Tb, ys, rfl, sT, hy⟩ := dp_tup h2
          rw [dp_ints hy] at sT
          exact ⟨A, Tb, rfl, sA, sT⟩
structure BkG (K : PySem.W.Frag) (CB : Addr) (H : Hp) (bk : Addr) (c : Nat) (bo : List (List Stm)) : Prop where
  bk : ∃ v, BkO CB H bk c v ∧ Dp K H v (toB bo)
  ft : fit (toB bo) 14 = true
  ok : ∀ b ∈ bo, okB c bo.length b
  c3 : c ≤ 3
  m3 : bo.length ≤ 3
theorem BkG.ex {CB bk : Addr} {c : Nat} {bo : List (List Stm)} (h : BkG K CB H bk c bo) (e : Ex H H') : BkG K CB H' bk c bo := by
  obtain ⟨v, ⟨dk, hk⟩, hv⟩ := h.bk
  exact ⟨⟨v, ⟨dk, e _ _ hk⟩, dp_ex e _ _ hv⟩, h.ft, h.ok, h.c3, h.m3⟩
/-- a book, a procedure and a list of bits -/
structure BkR (K : PySem.W.Frag) (CB : Addr) (H : Hp) (bk : Addr) (c p : Nat) (bo : List (List Stm)) (bits : List Nat) : Prop where
  g : BkG K CB H bk c bo
  pl : p < bo.length
  b1 : ∀ b ∈ bits, b ≤ 1
theorem BkR.ex {CB bk : Addr} {c p : Nat} {bo : List (List Stm)} {bits : List Nat} (h : BkR K CB H bk c p bo bits) (e : Ex H H') : BkR K CB H' bk c p bo bits := ⟨h.g.ex e, h.pl, h.b1⟩
def TellsD (K : PySem.W.Frag) (H : Hp) (Q : VK) (d : PyData) : Prop := ∀ u H', Ex H H' → Dp K H' u d → Q u H'
def spAskD (K : PySem.W.Frag) (CB : Addr) : Sp := fun vs H Q _ => ∃ (bk R T : Addr) (c p : Nat) (bo : List (List Stm)) (bits : List Nat) (v : List Int) (l : Int) (d : PyData), vs = [.ref bk, .ref R, .ref T, .int l] ∧ p = 0 ∧ BkR K CB H bk c p bo bits ∧ SqL K H R (bits.map nV) ∧ SqT K H T (v.map V.int) ∧ v.length = c ∧ DueD c bo p bits v l d ∧ TellsD K H Q d
theorem ok_laskedD {CB CN CP CQ CM f fP : Addr} {fd fdP : FuncData} {k : Nat} {g2 : List Value → List Value → List Value} (F : Fun K "_law_asked" "_law_asked" s_law_asked f fd) (z_list : mg "list" = none)
    (FP : FnOk P w K mg base (L2.CX P w) 25 fP fdP ["book", "procedure", "bits", "board", "n"] (spPlay K CB CN CP CQ CM)) (gF : mg "played" = some (.ref fP)) (kF : PySem.W.keepIn K (.ref fP) = true) (KB : KBn K fdP ["book", "procedure", "bits", "board", "n"] 3 ["board", "n"] g2 (fun vs zs => vs ++ zs))
    (gN : mg "NoRun" = some (.ref CN)) (eNN : PySem.W.exmOne K (.ref CN) (.ref CN) = some true) (TX : XfC K CN) (n1 : PySem.W.findIn K (.ref CN) "index" = some none) (hk : 26 ≤ k) : FnOk P w K mg base CX0 (k + 1) f fd ["book", "bits", "start", "load"] (spAskD K CB) := by
  have sc := sc_law_asked
  refine F.ok sc (fun vs H Q E h => ?_) (fun cdv A outer s H vs Q E hr h => ?_)
  · obtain ⟨bk, R, T, c, p, bo, bits, v, l, d, rfl, _⟩ := h
    rfl
  · obtain ⟨bk, R, T, c, p, bo, bits, v, l, d, rfl, rfl, B0, hR, hT, hvl, hD, q⟩ := h
    refine ⟨_, (pss_cons (ps_try_mix (cl := [(.ref CN, some 5, fun a cls d => tAsg (tLst (tCons (tC (.str "no")) (tCons (tXf a cls d CN "index" (tVar 5)) tNil))) (gName 4))]) rfl rfl takes0 (fun W pn xe tk _ => pss_one (ps_set (i := 4) sc.nd rfl (by first | exact Or.inl rfl | exact Or.inr rfl) (pe_op op_cat (pe_lst (pa_cons pe_str pa_nil)) (pe_callTy call_list_of (by rfl) z_list (by decide +kernel) (pa_cons (pe_callNS (E := WE W) FP (hr.mono (by omega)) (by rfl) gF kF KB (fun σ => passAt tk σ) (pa_cons (pv 0) (pa_cons pe_int (pa_cons (pv 1) pa_nil))) (pk_cons (pv 2) (pk_cons (pv 3) pk_nil))) pa_nil) : PE _ _ (tCB (rListS K) _))))) (.named (i := 5) sc.nd rfl rfl ⟨rfl, by decide, .inl gN⟩ (fun a oe cls d pn hz hf => pss_one (ps_set (i := 4) sc.nd rfl (by first | exact Or.inl rfl | exact Or.inr rfl) (pe_lst (pa_cons pe_str (pa_cons (pe_xf TX n1 hz hf (pv 5)) pa_nil))))) .nil))
      (pss_one (ps_ret (pv 4)))), ?_⟩
    obtain ⟨vb, ⟨dk, hbk⟩, hv⟩ := B0.g.bk
    refine ⟨by show 1 ≤ sizeLine; decide, fun L0 nL0 => ⟨.ref bk, rfl, .ref R, rfl, .ref T, rfl, .int l, rfl, rfl, rfl, ?_⟩⟩
    have e1 : Ex H (upd H L0 (.lst [.str "run"])) := Ex.new nL0
    have hL1 : (upd H L0 (.lst [.str "run"])) L0 = some (.lst [.str "run"]) := upd_same
    generalize upd H L0 (.lst [.str "run"]) = H1 at e1 hL1 ⊢
    have hc3 := B0.g.c3
    refine ⟨bk, vb, .int 0, .ref R, .ref T, .int l, .int 0, LI (bits.map (Nat.cast : Nat → Int)), .tuple (v.map PyData.int), .int l, c, 1, bo, rfl, ⟨dk, e1 _ _ hbk⟩, dp_ex e1 _ _ hv, B0.g.ft, B0.g.ok, B0.g.c3, B0.g.m3, .int _, .inl (.lst (ex_l e1 hR) (dpa_nats bits)), .tup (ex_t e1 hT) (dpa_ints v), (by
      rw [fit, fit_ints, List.length_map, hvl, decide_eq_true (show c ≤ 10000 by omega)]; rfl), .int _, fun h => (by have := btw_prD B0.pl; exact absurd (h.symm.trans this) (by decide)), fun p2 hp2 hpl => ?_⟩
    obtain rfl : p2 = 0 := by have := PyData.int.inj hp2; omega
    refine ⟨fun i hi => (by rw [cbD_bits B0.b1] at hi; cases hi), fun bits2 hd hb2 => ?_⟩
    have := li_inj hd
    subst this
    rcases hD with ⟨i, hr1, rfl⟩ | ⟨sC, st, ld, hr1, hbeh, hsl, rfl⟩
    · refine ⟨_, hr1, fun i hi d1 H3 e3 hd1 hxd => ?_, fun s2 hs2 => (nomatch hs2)⟩
      cases hi
      refine ⟨true, eNN, fun _ a ha => ?_, fun z => (nomatch z)⟩
      unfold suiteW
      dsimp only
      refine ⟨.ref a, rfl, rfl, rfl, d1, _, .int i, rfl, hxd, rfl, by show 2 ≤ sizeLine; decide, fun R nR => ?_⟩
      exact s_ret (ev_var rfl) fun H5 e5 => q _ _ (((e1.trans e3).trans (Ex.new nR)).trans e5) (.lst (sq_of (e5 _ _ upd_same)) (.cons (.str _) (.cons (.int i) .nil)))
    · refine ⟨_, hr1, fun i hi => (nomatch hi), fun s2 hs2 => ⟨fun _ hb => (by rw [(bd_stK hvl).1] at hb; cases hb), fun b hb => ?_⟩⟩
      cases hs2
      rw [(bd_stK hvl).2] at hb
      cases hb
      refine ⟨fun z => (nomatch z), fun n hn u H3 e3 hu => ?_⟩
      cases hn
      obtain ⟨Au, Tb, rfl, sA, sTb⟩ := play_parts hu hbeh hsl
      refine ⟨Au, _, rfl, .inr sA, fun M nM => ?_⟩
      have e4 := Ex.new (o := .lst [.int (sC.way : Int), .ref Tb, .int ld, .int (sC.len : Int)]) nM
      refine ⟨L0, M, _, _, rfl, rfl, (e3.trans e4) _ _ hL1, upd_same, sz_of (by show 5 ≤ 100000; decide), fun R2 nR2 => ?_⟩
      have e5 := e4.trans (Ex.new (o := .lst ([.str "run"] ++ [.int (sC.way : Int), .ref Tb, .int ld, .int (sC.len : Int)])) nR2)
      exact s_ret (ev_var rfl) fun H6 e6 => q _ _ ((e1.trans (e3.trans e5)).trans e6) (.lst (sq_of (e6 _ _ upd_same)) (.cons (.str _) (.cons (.int _) (.cons (.tup (ex_t (e5.trans e6) sTb) (dpa_ints _)) (.cons (.int _) (.cons (.int _) .nil))))))
end
/-! #### what the law compares, as mathematics -/
section
variable {bits : List Nat} {c m : Nat}
/-- both told alike, but for the number of commands -/
theorem told_pair {w1 w2 : Option Nat} {s1 s2 : Ls} (n1 : s1.err ≠ some .long) (n2 : s2.err ≠ some .long) (h : (M2 s1 ∧ M2 s2) ∨ (¬M2 s1 ∧ ¬M2 s2 ∧ w1 = w2 ∧ s1.taken = s2.taken ∧ s1.stand = s2.stand ∧ s1.load = s2.load ∧ s1.err = s2.err ∧ s1.len ≤ s2.len)) :
    (∃ i : Int, lpD bits (w1, s1) = .list [.str "no", .int i] ∧ lpD bits (w2, s2) = .list [.str "no", .int i]) ∨
    (∃ (wy : Option Nat) (l : Int) (k1 k2 : Nat), lpD bits (w1, s1) = .list [.str "run", wyD wy, .tuple (s1.stand.map PyData.int), .int l, .int (k1 : Int)] ∧ lpD bits (w2, s2) = .list [.str "run", wyD wy, .tuple (s1.stand.map PyData.int), .int l, .int (k2 : Int)] ∧ k1 ≤ k2) := by
  rw [lpD, lpD]
  dsimp only
  rcases h with ⟨h1, h2⟩ | ⟨_, _, rfl, ht, hs, hl, he, hn⟩
  · rw [show s1.err = some (.no (-2)) from h1, show s2.err = some (.no (-2)) from h2]
    exact .inl ⟨-2, rfl, rfl⟩
  · cases h1 : s1.err with
    | some z =>
      rw [← he, h1]
      cases z with
      | long => exact absurd h1 n1
      | no i => exact .inl ⟨i, rfl, rfl⟩
    | none =>
      rw [← he, h1]
      dsimp only
      by_cases hb : s1.taken < bits.length
      · rw [if_pos hb, if_pos (by rw [← ht]; exact hb), ← ht]
        exact .inl ⟨_, rfl, rfl⟩
      · rw [if_neg hb, if_neg (by rw [← ht]; exact hb), ← hs, ← hl]
        exact .inr ⟨w1, s1.load, s1.len, s2.len, rfl, rfl, hn⟩
mutual
theorem okS_down : ∀ (x : Stm) {lv k : Nat}, okS c m x lv → k ≤ lv → okS c m x k
  | .set k r, lv, j, h, _ => by rw [okS] at h ⊢; exact h
  | .carry r, lv, j, h, _ => by rw [okS] at h ⊢; exact h
  | .keep cs b, lv, j, h, hl => by rw [okS] at h ⊢; exact ⟨by omega, h.2.1, h.2.2.1, okL_down b h.2.2.2 (by omega)⟩
  | .either a b, lv, j, h, hl => by rw [okS] at h ⊢; exact ⟨by omega, h.2.1, okL_down a h.2.2.1 (by omega), h.2.2.2.1, okL_down b h.2.2.2.2 (by omega)⟩
  | .again b, lv, j, h, hl => by rw [okS] at h ⊢; exact ⟨by omega, h.2.1, okL_down b h.2.2 (by omega)⟩
  | .call p r a b, lv, j, h, hl => by rw [okS] at h ⊢; exact ⟨by omega, h.2.1, h.2.2.1, h.2.2.2.1, okL_down a h.2.2.2.2.1 (by omega), h.2.2.2.2.2.1, okL_down b h.2.2.2.2.2.2 (by omega)⟩
  | .fin w, lv, j, h, _ => by rw [okS] at h ⊢; exact h
theorem okL_down : ∀ (b : List Stm) {lv k : Nat}, okL c m b lv → k ≤ lv → okL c m b k
  | [], lv, j, _, _ => by rw [okL]; trivial
  | x :: r, lv, j, h, hl => by rw [okL] at h ⊢; exact ⟨okS_down x h.1 hl, okL_down r h.2 hl⟩
end
/-- the first procedures of both books are right -/
theorem okB_bo1 {row : List Int} {bf bh af : List Stm} (c1 : 1 ≤ c) (m2 : 2 ≤ m) (hr : okR c row) (hf : okL c m bf 0) (lf : bf.length ≤ 2) (cf : cntL bf ≤ 2) (hh : okL c m bh 1) (lh : bh.length ≤ 2) (ch : cntL bh ≤ 2) (ha : okL c m af 0) (la : af.length ≤ 1) (ca : cntL af ≤ 1) : okB c m (bf ++ (.call 1 row bh [.fin 1] :: af)) := by
  refine ⟨okL_app hf ?_, by rw [List.length_append, List.length_cons]; omega, ?_⟩
  · rw [okL, okS]
    refine ⟨⟨by decide, by omega, hr, by omega, hh, by show 1 ≤ 8; decide, ?_⟩, ha⟩
    rw [okL, okL, okS]
    exact ⟨by decide, trivial⟩
  · rw [cntL_app, cntL, cnt]
    have : cntL [.fin 1] = 1 := rfl
    omega
theorem okB_bo2 {row : List Int} {bf bh af cd : List Stm} (c1 : 1 ≤ c) (hr : okR c row) (hf : okL c m bf 0) (lf : bf.length ≤ 2) (cf : cntL bf ≤ 2) (hh : okL c m bh 1) (lh : bh.length ≤ 2) (ch : cntL bh ≤ 2) (ha : okL c m af 0) (la : af.length ≤ 1) (ca : cntL af ≤ 1) (hc : okL c m cd 1) (lc : cd.length ≤ 4) (cc : cntL cd ≤ 4) : okB c m (bf ++ (.keep [] (.carry row :: cd) :: (bh ++ af))) := by
  refine ⟨okL_app hf ?_, by rw [List.length_append, List.length_cons, List.length_append]; omega, ?_⟩
  · rw [okL, okS]
    refine ⟨⟨by decide, ⟨List.Pairwise.nil, fun k h => (nomatch h)⟩, by rw [List.length_cons]; omega, ?_⟩, okL_app (okL_down bh hh (by decide)) ha⟩
    rw [okL, okS]
    exact ⟨hr, hc⟩
  · rw [cntL_app, cntL, cnt, cntL, cntL_app, cnt]
    omega
end
abbrev slaw : Stmt := topS 74
theorem sclaw : FnScope ["script", "pool", "cells", "many", "called", "world", "before", "behind_v", "row", "call", "set_in", "after", "others", "plain", "other", "books", "start", "load", "turn", "bits", "first", "second", "told", "k"] ["script"] (defScope slaw) := ⟨rfl, rfl, rfl, by decide +kernel, rfl, by decide +kernel, by decide +kernel⟩
open C8 (Mak pe_mk)
theorem cal_mono9 {P : Program} {w : World} {K : PySem.W.Frag} {mg : Str → Option Value} {base : Heap} {j k : Nat} {x : Str} {sp : Sp} {dvs : List V} (h : j ≤ k) (C : Cal P w K mg base j x sp dvs) : Cal P w K mg base k x sp dvs := by
  obtain ⟨f, fd, ps, ds, F, r⟩ := C.ex
  exact ⟨⟨f, fd, ps, ds, F.mono h, r⟩⟩
section
variable {P : Program} {w : World} {K : PySem.W.Frag} {mg : Str → Option Value} {base : Heap} {σ : L2.St} {H H' H0 : Hp} {te t1 t2 : TE} {W : Addr → Prop}
def spLaw (K : PySem.W.Frag) : Sp := fun vs H Q _ => ∃ (a : Addr) (ns : List Int), vs = [.ref a] ∧ SqL K H a (ns.map V.int) ∧ ∀ H', Q (.bl true) H'
theorem dpa_take9 : ∀ {xs : List V} {ds : List PyData} (k : Nat), DpAll K H xs ds → DpAll K H (xs.take k) (ds.take k)
  | _, _, 0, _ => by rw [List.take_zero, List.take_zero]; exact .nil
  | _, _, k + 1, .nil => .nil
  | _, _, k + 1, .cons h r => .cons h (dpa_take9 k r)
def LD (K : PySem.W.Frag) (p A : Addr) (xs : List V) (ds : List PyData) (H : Hp) : Prop := A ≠ p ∧ H A = some (.lst xs) ∧ DpAll K (Cw (fun z => z = p) H) xs ds
theorem LD.oth {p A : Addr} {xs : List V} {ds : List PyData} (h : LD K p A xs ds H) (o : Oth p H H') : LD K p A xs ds H' := ⟨h.1, o _ _ h.1 h.2.1, dpa_ex (cw_oth (W := fun z => z = p) rfl o) _ _ h.2.2⟩
theorem LD.dp {p A : Addr} {xs : List V} {ds : List PyData} (h : LD K p A xs ds H) : Dp K (Cw (fun z => z = p) H) (.ref A) (.list ds) := .lst (sq_of (cw_o h.2.1 h.1)) h.2.2
theorem LD.var {p A : Addr} {xs : List V} {ds : List PyData} {i : Nat} (h : LD K p A xs ds H) (hσ : σ[i]? = some (some (.ref A))) : EvLd K (fun z => z = p) (tVar i) σ H ds := ld_var hσ (cw_o h.2.1 h.1) h.2.2
theorem oth_two {p wd : Addr} (n : H0 wd = none) (e : Ex H0 H) (o : Oth2 p wd H H') : Oth p H0 H' := fun a u hp ha => o a u hp (fun z => by rw [z, n] at ha; cases ha) (e _ _ ha)
theorem LD.dq {p q : Addr} {v : V} {ds : List PyData} (h : Dq (New H) H' v (.list ds)) (hp : ∃ u, H p = some u) : ∃ A xs, v = .ref A ∧ LD K p A xs ds H' := by
  cases h with
  | lst n h1 h2 => exact ⟨_, _, rfl, new_ne n hp, h1, dqa_dpa (N := fun _ => True) _ _ (dqa_to (fun _ _ => trivial) (fun a o n ha => cw_o (W := fun z => z = p) ha (new_ne n hp)) _ _ h2)⟩
theorem epw_is {d e : PyData} (h : EvP te σ H (DPw K W d)) (z : d = e) : EvP te σ H (DPw K W e) := by rw [← z]; exact h
theorem q_asgLw {i : Nat} {D : Ends} {tz : TS} {ds : List PyData} (h : EvLw K W te σ H ds) (k : ∀ A xs H1, H A = none → Ex H H1 → H1 A = some (.lst xs) → DpAll K (Cw W H1) xs ds → tz D (σ.set i (some (.ref A))) H1) : tSeq (tAsg te (gName i)) tz D σ H := h H (Ex.refl H) _ fun p xs H2 n e h2 g => k p xs H2 n e h2 g
theorem q_lst2P {i : Nat} {D : Ends} {tz : TS} {Φ1 Φ2 : V → Hp → Prop} (h1 : EvP t1 σ H Φ1) (h2 : EvP t2 σ H Φ2) (k : ∀ u1 u2 L H1 H2, Ex H H1 → Φ1 u1 H1 → Ex H1 H2 → Φ2 u2 H2 → H2 L = none → tz D (σ.set i (some (.ref L))) (upd H2 L (.lst [u1, u2]))) : tSeq (tAsg (tLst (tCons t1 (tCons t2 tNil))) (gName i)) tz D σ H :=
  h1 H (Ex.refl H) _ fun u1 H1 e1 f1 => h2 H1 e1 _ fun u2 H2 e2 f2 => ⟨by show 2 ≤ sizeLine; decide, fun L nL => k u1 u2 L H1 H2 e1 f1 e2 f2 nL⟩
theorem toDs_app9 : ∀ a b : List Stm, toDs (a ++ b) = toDs a ++ toDs b
  | [], b => rfl
  | x :: a, b => by rw [List.cons_append, toDs, toDs, toDs_app9 a b]; rfl
theorem ep_take4 {A : Addr} {xs : List V} {ds : List PyData} (h : Ev te σ H (.ref A)) (hA : SqL K H A xs) (hx : DpAll K H xs ds) (hl : xs.length = 2 ∨ 4 ≤ xs.length) : EvP (tSl (rSlL K) te tNoPart (tPart (tC (.int 4)))) σ H (DP K (.list (ds.take 4))) := by
  have h1 := el_sl (K := K) (lo := none) (hi := some ((4 : Nat) : Int)) h eo_none (eo_some ev_c) hA
  have h2 : cutV xs none (some ((4 : Nat) : Int)) = xs.take 4 := by
    rcases hl with h | h
    · match xs, h with
      | [x, y], _ => rfl
    · exact cut_toR xs h
  rw [h2] at h1
  exact ep_el h1 fun p H2 e2 hp => .lst (sq_of hp) (dpa_ex e2 _ _ (dpa_take9 4 hx))
theorem ep_callG9 {sp : Sp} {E : XK} {t : TA} {vs : List V} {Φ : V → Hp → Prop} (h : EvA t σ H vs) (k : ∀ H1, Ex H H1 → ∀ Q : VK, (∀ u H2, Ex H1 H2 → Φ u H2 → Q u H2) → sp (vs ++ []) H1 Q E) : EvP (tCall sp [] E t) σ H Φ := fun H1 e Q q => h H1 e _ fun H2 e2 => k H2 (e.trans e2) Q fun u H3 e3 f => q u H3 (e2.trans e3) f
theorem hasP {p q : Addr} (x : Pool H p q) : Has (fun z => z = p) H := fun a h => by
  have h : a = p := h
  rw [h]; exact x.isP
theorem ok_law {C f : Addr} {fd : FuncData} {k kp : Nat} {ok : Str → Prop} (F : Fun K "law" "law" slaw f fd) (o7 : okWords ok) (z_range : mg "range" = none)
    (C_law_pool : Cal P w K mg base 1 "_law_pool" (spPool K) []) (C_law_draw : Cal P w K mg base 1 "_law_draw" spDraw []) (C_law_row : Cal P w K mg base 2 "_law_row" spRow []) (C_law_command : Cal P w K mg base 3 "_law_command" spCmd []) (C_law_body1 : Cal P w K mg base 12 "_law_body" (spBodyR 1) []) (C_law_body : Cal P w K mg base 12 "_law_body" (spBodyR 0) []) (C_law_block : Cal P w K mg base 11 "_law_block" (spBlk 0) []) (C_law_block1 : Cal P w K mg base 11 "_law_block" (spBlk 1) []) (C_law_endless : Cal P w K mg base 4 "_law_endless" (spEndl K 3) []) (CBook : Mak P w K mg base 16 "Book" C (spInit K ok C 15) [])
    (C_law_bits : Cal P w K mg base 2 "_law_bits" spBits []) (C_law_played : Cal P w K mg base kp "_law_played" (spLP K 640) []) (C_law_asked : Cal P w K mg base 27 "_law_asked" (spAskD K C) []) (C_law_same : Cal P w K mg base 15 "_law_same" (spSame K 15) []) (C_law_board : Cal P w K mg base 3 "_law_board" spLBd []) (C_law_number : Cal P w K mg base 2 "_law_number" spNumber []) (hk0 : 27 ≤ kp) (hk : kp ≤ k) :
    FnOk P w K mg base CX0 (k + 1) f fd ["script"] (spLaw K) := by
  have sc := sclaw
  refine F.ok sc (fun vs H Q E h => ?_) (fun cdv A outer s H vs Q E hr h => ?_)
  · obtain ⟨a, ns, rfl, _⟩ := h
    rfl
  · obtain ⟨a, ns, rfl, hS, q⟩ := h
    refine ⟨_, (pss_cons (ps_set (i := 1) sc.nd rfl (by first | exact Or.inl rfl | exact Or.inr rfl) (pe_c C_law_pool hr (by omega) (by rfl) (pa_cons (pv 0) pa_nil)))
      (pss_cons (ps_set (i := 2) sc.nd rfl (by first | exact Or.inl rfl | exact Or.inr rfl) (pe_op op_add pe_int (pe_c C_law_draw hr (by omega) (by rfl) (pa_cons (pv 1) (pa_cons pe_int pa_nil)))))
      (pss_cons (ps_set (i := 3) sc.nd rfl (by first | exact Or.inl rfl | exact Or.inr rfl) (pe_op op_add pe_int (pe_c C_law_draw hr (by omega) (by rfl) (pa_cons (pv 1) (pa_cons pe_int pa_nil)))))
      (pss_cons (ps_set (i := 4) sc.nd rfl (by first | exact Or.inl rfl | exact Or.inr rfl) (pe_c C_law_endless hr (by omega) (by rfl) (pa_cons (pe_c C_law_body1 hr (by omega) (by rfl) (pa_cons (pv 1) (pa_cons (pv 2) (pa_cons (pv 3) (pa_cons pe_int (pa_cons pe_int pa_nil)))))) (pa_cons (pv 2) pa_nil))))
      (pss_cons (ps_set (i := 5) sc.nd rfl (by first | exact Or.inl rfl | exact Or.inr rfl) (pe_lst (pa_cons (pv 2) (pa_cons (pv 3) (pa_cons pe_int pa_nil)))))
      (pss_cons (ps_set (i := 6) sc.nd rfl (by first | exact Or.inl rfl | exact Or.inr rfl) (pe_c C_law_block hr (by omega) (by rfl) (pa_cons (pv 1) (pa_cons (pv 5) (pa_cons pe_int (pa_cons pe_int pa_nil))))))
      (pss_cons (ps_set (i := 5) sc.nd rfl (by first | exact Or.inl rfl | exact Or.inr rfl) (pe_lst (pa_cons (pv 2) (pa_cons (pv 3) (pa_cons pe_int pa_nil)))))
      (pss_cons (ps_set (i := 7) sc.nd rfl (by first | exact Or.inl rfl | exact Or.inr rfl) (pe_c C_law_block1 hr (by omega) (by rfl) (pa_cons (pv 1) (pa_cons (pv 5) (pa_cons pe_int (pa_cons pe_int pa_nil))))))
      (pss_cons (ps_set (i := 8) sc.nd rfl (by first | exact Or.inl rfl | exact Or.inr rfl) (pe_c C_law_row hr (by omega) (by rfl) (pa_cons (pv 1) (pa_cons (pv 2) pa_nil))))
      (pss_cons (ps_set (i := 9) sc.nd rfl (by first | exact Or.inl rfl | exact Or.inr rfl) (pe_tup (pa_cons pe_str (pa_cons pe_int (pa_cons (pv 8) (pa_cons (pe_lst (pa_cons (pv 7) (pa_cons (pe_lst (pa_cons (pe_tup (pa_cons pe_str (pa_cons pe_int pa_nil))) pa_nil)) pa_nil))) pa_nil))))))
      (pss_cons (ps_set (i := 10) sc.nd rfl (by first | exact Or.inl rfl | exact Or.inr rfl) (pe_op op_cat (pe_lst (pa_cons (pe_tup (pa_cons pe_str (pa_cons (pe_lst pa_nil) (pa_cons (pe_op op_cat (pe_lst (pa_cons (pe_tup (pa_cons pe_str (pa_cons (pv 8) pa_nil))) pa_nil)) (pv 4)) pa_nil)))) pa_nil)) (pv 7)))
      (pss_cons (ps_set (i := 11) sc.nd rfl (by first | exact Or.inl rfl | exact Or.inr rfl) (pe_ix ix_list (pe_lst (pa_cons (pe_lst pa_nil) (pa_cons (pe_lst (pa_cons (pe_tup (pa_cons pe_str (pa_cons pe_int pa_nil))) pa_nil)) (pa_cons (pe_lst (pa_cons (pe_c C_law_command hr (by omega) (by rfl) (pa_cons (pv 1) (pa_cons (pv 2) pa_nil))) pa_nil)) pa_nil)))) (pe_c C_law_draw hr (by omega) (by rfl) (pa_cons (pv 1) (pa_cons pe_int pa_nil))) (fun _ _ => rfl)))
      (pss_cons (ps_setLc (i := 12) (own := [("k", 23)]) (by rfl) sc.nd rfl rfl (sw_true rfl rfl rfl (by decide +kernel)) (pi_range1 (by rfl) z_range (pa_cons (pe_op op_sub (pv 3) pe_int) pa_nil)) (blkOk_by (own := [("k", 23)]) (N := ["script", "pool", "cells", "many", "called", "world", "before", "behind_v", "row", "call", "set_in", "after", "others", "plain", "other", "books", "start", "load", "turn", "bits", "first", "second", "told", "k"]) (sc := defScope slaw) (by decide +kernel)) (fun _ _ _ _ _ => (pg_name (i := 23) sc.nd rfl (by first | exact Or.inl rfl | exact Or.inr rfl))) (fun _ _ _ _ _ => pts_nil) (fun _ _ _ _ _ => (pe_c C_law_body hr (by omega) (by rfl) (pa_cons (pv 1) (pa_cons (pv 2) (pa_cons (pv 3) (pa_cons pe_int (pa_cons pe_int pa_nil))))))))
      (pss_cons (ps_set (i := 13) sc.nd rfl (by first | exact Or.inl rfl | exact Or.inr rfl) (pe_op op_cat (pe_lst (pa_cons (pe_op op_cat (pe_op op_cat (pv 6) (pe_lst (pa_cons (pv 9) pa_nil))) (pv 11)) (pa_cons (pv 4) pa_nil))) (pv 12)))
      (pss_cons (ps_set (i := 14) sc.nd rfl (by first | exact Or.inl rfl | exact Or.inr rfl) (pe_op op_cat (pe_lst (pa_cons (pe_op op_cat (pe_op op_cat (pv 6) (pv 10)) (pv 11)) (pa_cons (pv 4) pa_nil))) (pv 12)))
      (pss_cons (ps_set (i := 15) sc.nd rfl (by first | exact Or.inl rfl | exact Or.inr rfl) (pe_lst (pa_cons (pe_mk CBook hr (by omega) (by rfl) (pa_cons (pv 2) (pa_cons (pv 13) pa_nil))) (pa_cons (pe_mk CBook hr (by omega) (by rfl) (pa_cons (pv 2) (pa_cons (pv 14) pa_nil))) pa_nil))))
      (pss_cons (ps_set (i := 16) sc.nd rfl (by first | exact Or.inl rfl | exact Or.inr rfl) (pe_c C_law_board hr (by omega) (by rfl) (pa_cons (pv 1) (pa_cons (pv 2) pa_nil))))
      (pss_cons (ps_set (i := 17) sc.nd rfl (by first | exact Or.inl rfl | exact Or.inr rfl) (pe_c C_law_number hr (by omega) (by rfl) (pa_cons (pv 1) pa_nil)))
      (pss_cons (ps_for PassesOwn.never rfl (pi_range1 (by rfl) z_range (pa_cons pe_int pa_nil)) (pg_name (i := 18) sc.nd rfl (by first | exact Or.inl rfl | exact Or.inr rfl))
      (pss_cons (ps_set (i := 19) sc.nd rfl (by first | exact Or.inl rfl | exact Or.inr rfl) (pe_c C_law_bits hr (by omega) (by rfl) (pa_cons (pv 1) (pa_cons pe_int pa_nil))))
      (pss_cons (ps_set (i := 20) sc.nd rfl (by first | exact Or.inl rfl | exact Or.inr rfl) (pe_c C_law_played hr (by omega) (by rfl) (pa_cons (pv 13) (pa_cons pe_int (pa_cons (pv 19) (pa_cons (pv 16) (pa_cons (pv 17) pa_nil)))))))
      (pss_cons (ps_set (i := 21) sc.nd rfl (by first | exact Or.inl rfl | exact Or.inr rfl) (pe_c C_law_played hr (by omega) (by rfl) (pa_cons (pv 14) (pa_cons pe_int (pa_cons (pv 19) (pa_cons (pv 16) (pa_cons (pv 17) pa_nil)))))))
      (pss_cons (ps_if (PW.pt (pw_or (pt_cmpR op_eq (pe_ix ix_list (pv 20) pe_int (fun _ _ => rfl)) pe_str (nomark _)) (pw_or1 (pt_cmpR op_eq (pe_ix ix_list (pv 21) pe_int (fun _ _ => rfl)) pe_str (nomark _)))))
      (pss_one ps_continue)
      pss_nil)
      (pss_cons (ps_set (i := 22) sc.nd rfl (by first | exact Or.inl rfl | exact Or.inr rfl) (pe_lst (pa_cons (pe_c C_law_asked hr (by omega) (by rfl) (pa_cons (pe_ix ix_list (pv 15) pe_int (fun _ _ => rfl)) (pa_cons (pv 19) (pa_cons (pv 16) (pa_cons (pv 17) pa_nil))))) (pa_cons (pe_c C_law_asked hr (by omega) (by rfl) (pa_cons (pe_ix ix_list (pv 15) pe_int (fun _ _ => rfl)) (pa_cons (pv 19) (pa_cons (pv 16) (pa_cons (pv 17) pa_nil))))) pa_nil))))
      (pss_cons (ps_if (PW.pt (pw_or (pt_not (pt_val (pe_c C_law_same hr (by omega) (by rfl) (pa_cons (pv 22) (pa_cons (pe_lst (pa_cons (pv 20) (pa_cons (pv 21) pa_nil))) pa_nil))))) (pw_or1 (pt_not (pt_val (pe_c C_law_same hr (by omega) (by rfl) (pa_cons (pe_slice sl_list (pe_ix ix_list (pv 22) pe_int (fun _ _ => rfl)) po_none (po_some pe_int)) (pa_cons (pe_slice sl_list (pe_ix ix_list (pv 22) pe_int (fun _ _ => rfl)) po_none (po_some pe_int)) pa_nil))))))))
      (pss_one (ps_ret pe_bl))
      pss_nil)
      (pss_one (ps_if (PW.pt (pw_and (pt_cmpR op_eq (pe_ix ix_list (pe_ix ix_list (pv 22) pe_int (fun _ _ => rfl)) pe_int (fun _ _ => rfl)) pe_str (nomark _)) (pw_and1 (pt_cmpR op_lt (pe_ix ix_list (pe_ix ix_list (pv 22) pe_int (fun _ _ => rfl)) pe_int (fun _ _ => rfl)) (pe_ix ix_list (pe_ix ix_list (pv 22) pe_int (fun _ _ => rfl)) pe_int (fun _ _ => rfl)) (nomark _)))))
      (pss_one (ps_ret pe_bl))
      pss_nil)))))))))
      (pss_one (ps_ret pe_bl))))))))))))))))))))), ?_⟩
    refine q_run ?_
    refine ⟨.ref a, rfl, a, ns, rfl, hS, fun p q0 H1 np nq e1 x1 => ?_⟩
    refine q_run ?_
    refine ⟨.ref p, rfl, p, q0, 3, rfl, by decide, by decide, x1, fun r H2 r0 r3 o2 x2 => ?_⟩
    obtain ⟨c, hc⟩ : ∃ n : Nat, 1 + r = (n : Int) := ⟨(1 + r).toNat, by omega⟩
    refine ⟨1, r, rfl, rfl, ?_⟩
    show tSeq _ _ _ (List.set _ 2 (some (V.int (1 + r)))) _
    rw [hc]
    refine q_run ?_
    refine ⟨.ref p, rfl, p, q0, 2, rfl, by decide, by decide, x2, fun r' H3 r0' r3' o3 x3 => ?_⟩
    obtain ⟨m, hm⟩ : ∃ n : Nat, 2 + r' = (n : Int) := ⟨(2 + r').toNat, by omega⟩
    refine ⟨2, r', rfl, rfl, ?_⟩
    show tSeq _ _ _ (List.set _ 3 (some (V.int (2 + r')))) _
    rw [hm]
    have c1 : 1 ≤ c := by omega
    have c3 : c ≤ 3 := by omega
    have m2 : 2 ≤ m := by omega
    have m3 : m ≤ 3 := by omega
    -- called
    refine q_run ?_
    refine ⟨.ref p, rfl, .int (c : Int), rfl, .int (m : Int), rfl, p, q0, c, m, 4, rfl, by decide, by decide, c1, c3, by omega, m3, x3, fun b0 bv H4 hb0 lb0 _ cb0 o4 x4 dq4 => ?_⟩
    obtain ⟨A4, xs4, rfl, L4⟩ := LD.dq (K := K) (q := q0) dq4 x3.isP
    refine ⟨.int (c : Int), rfl, .ref A4, b0, c, m, 1, fun z => z = p, rfl, by decide, by decide, hasP x4, L4.dp, hb0, by omega, c3, fun Cd cys H5 e5 hCd nCd hcx => ?_⟩
    have hcd := ok_enL c1 b0 1 hb0
    have lcd : (enL c b0).length ≤ 4 := by rw [enL_len]; exact lb0
    have ccd : cntL (enL c b0) ≤ 4 := by rw [cnt_enL]; exact cb0
    have nfc := nf_enL c b0
    have LC : LD K p Cd cys (toDs (enL c b0)) H5 := ⟨nCd, hCd, hcx⟩
    have x5 := x4.ex e5
    generalize enL c b0 = cd at hcd lcd ccd nfc LC
    clear L4 dq4 hcx hCd
    show tSeq _ _ _ [some (.ref a), some (.ref p), some (.int (c : Int)), some (.int (m : Int)), some (.ref Cd), none, none, none, none, none, none, none, none, none, none, none, none, none, none, none, none, none, none, none] H5
    -- before
    refine q_asgL (el_lst (ea_cons (ev_var rfl) (ea_cons (ev_var rfl) (ea_cons ev_c ea_nil))) (by show 3 ≤ 100000; decide)) fun Wd H6 nWd e6 hWd => ?_
    have x6 := x5.ex e6
    refine q_run ?_
    refine ⟨.ref p, rfl, .ref Wd, rfl, p, q0, Wd, c, m, 2, 2, rfl, by decide, by decide, c1, c3, by omega, m3, x6, ⟨hWd, new_ne nWd x5.isQ⟩, fun bf v7 rm7 H7 hbf lbf cbf o7' x7 _ dq7 => ?_⟩
    have cbf2 : cntL bf ≤ 2 := by omega
    obtain ⟨Fa, fxs, rfl, LF⟩ := LD.dq (K := K) (q := q0) dq7 x6.isP
    replace LC := LC.oth (oth_two nWd e6 o7')
    clear dq7
    show tSeq _ _ _ [some (.ref a), some (.ref p), some (.int (c : Int)), some (.int (m : Int)), some (.ref Cd), some (.ref Wd), some (.ref Fa), none, none, none, none, none, none, none, none, none, none, none, none, none, none, none, none, none] H7
    -- behind
    refine q_asgL (el_lst (ea_cons (ev_var rfl) (ea_cons (ev_var rfl) (ea_cons ev_c ea_nil))) (by show 3 ≤ 100000; decide)) fun Wd2 H8 nWd2 e8 hWd2 => ?_
    have x8 := x7.ex e8
    refine q_run ?_
    refine ⟨.ref p, rfl, .ref Wd2, rfl, p, q0, Wd2, c, m, 2, 2, rfl, by decide, by decide, c1, c3, by omega, m3, x8, ⟨hWd2, new_ne nWd2 x7.isQ⟩, fun bh v9 rm9 H9 hbh lbh cbh o9' x9 _ dq9 => ?_⟩
    have cbh2 : cntL bh ≤ 2 := by omega
    obtain ⟨Ha, hxs, rfl, LH⟩ := LD.dq (K := K) (q := q0) dq9 x8.isP
    replace LC := LC.oth (oth_two nWd2 e8 o9')
    replace LF := LF.oth (oth_two nWd2 e8 o9')
    clear dq9
    show tSeq _ _ _ [some (.ref a), some (.ref p), some (.int (c : Int)), some (.int (m : Int)), some (.ref Cd), some (.ref Wd2), some (.ref Fa), some (.ref Ha), none, none, none, none, none, none, none, none, none, none, none, none, none, none, none, none] H9
    -- row
    refine q_run ?_
    refine ⟨.ref p, rfl, .int (c : Int), rfl, p, q0, c, rfl, c3, x9, fun rw R H10 okr nR o10 x10 hR => ?_⟩
    have Rp : R ≠ p := new_ne nR x9.isP
    replace LC := LC.oth o10
    replace LF := LF.oth o10
    replace LH := LH.oth o10
    have hP10 := hasP x10
    have dR : Dp K (Cw (fun z => z = p) H10) (.ref R) (LI rw) := .lst (sq_of (cw_o hR Rp)) (dpa_ints rw)
    show tSeq _ _ _ [some (.ref a), some (.ref p), some (.int (c : Int)), some (.int (m : Int)), some (.ref Cd), some (.ref Wd2), some (.ref Fa), some (.ref Ha), some (.ref R), none, none, none, none, none, none, none, none, none, none, none, none, none, none, none] H10
    -- the call
    refine q_asgP (Φ := DPw K (fun z => z = p) (toD (.call 1 rw bh [.fin 1]))) (epw_is (epc_tup hP10 (edc_cons (epc_ev ev_c (.str "call")) (edc_cons (epc_ev ev_c (.int 1)) (edc_cons (epc_ev (ev_var rfl) dR) (edc_cons (epc_lst hP10 (edc_cons (epc_ev (ev_var rfl) LH.dp) (edc_cons (epc_lst hP10 (edc_cons (epc_tup hP10 (edc_cons (epc_ev ev_c (.str "end")) (edc_cons (epc_ev ev_c (.int 1)) edc_nil)) (by show 2 ≤ 100000; decide)) edc_nil) (by show 1 ≤ 100000; decide)) edc_nil)) (by show 2 ≤ 100000; decide)) edc_nil)))) (by show 4 ≤ 100000; decide)) rfl) fun vC H11 e11 hC => ?_
    have x11 := x10.ex e11
    replace LC := LC.oth (.of e11)
    replace LF := LF.oth (.of e11)
    replace LH := LH.oth (.of e11)
    have dR11 := dp_ex (cw_mono e11) _ _ dR
    have hP11 := hasP x11
    show tSeq _ _ _ [some (.ref a), some (.ref p), some (.int (c : Int)), some (.int (m : Int)), some (.ref Cd), some (.ref Wd2), some (.ref Fa), some (.ref Ha), some (.ref R), some vC, none, none, none, none, none, none, none, none, none, none, none, none, none, none] H11
    -- set in
    refine q_asgLw (W := fun z => z = p) (ds := toDs (.keep [] (.carry rw :: cd) :: bh)) (ld_cat (ds := [toD (.keep [] (.carry rw :: cd))]) (ld_lw hP11 (lw_one (epw_is (epc_tup hP11 (edc_cons (epc_ev ev_c (.str "keep")) (edc_cons (epc_lst hP11 edc_nil (by show 0 ≤ 100000; decide)) (edc_cons (lw_ep hP11 (ld_cat (ds := [toD (.carry rw)]) (ld_lw hP11 (lw_one (epw_is (epc_tup hP11 (edc_cons (epc_ev ev_c (.str "carry")) (edc_cons (epc_ev (ev_var rfl) dR11) edc_nil)) (by show 2 ≤ 100000; decide)) rfl))) (LC.var rfl) (by rw [toDs_len]; show 1 + _ ≤ _; omega))) edc_nil))) (by show 3 ≤ 100000; decide)) rfl))) (LH.var rfl) (by rw [toDs_len]; show 1 + _ ≤ _; omega)) fun Si sxs H12 nSi e12 hSi hsx => ?_
    have x12 := x11.ex e12
    have LS : LD K p Si sxs (toDs (.keep [] (.carry rw :: cd) :: bh)) H12 := ⟨new_ne nSi x11.isP, hSi, hsx⟩
    replace LC := LC.oth (.of e12)
    replace LF := LF.oth (.of e12)
    have hC12 : Dp K (Cw (fun z => z = p) H12) vC (toD (.call 1 rw bh [.fin 1])) := dp_ex (cw_mono e12) _ _ hC
    clear LH hC hSi hsx dR dR11
    show tSeq _ _ _ [some (.ref a), some (.ref p), some (.int (c : Int)), some (.int (m : Int)), some (.ref Cd), some (.ref Wd2), some (.ref Fa), some (.ref Ha), some (.ref R), some vC, some (.ref Si), none, none, none, none, none, none, none, none, none, none, none, none, none] H12
    -- after
    refine q_run ?_
    refine ⟨by show 0 ≤ sizeLine; decide, fun M0 nM0 => ⟨by show 2 ≤ sizeLine; decide, fun M1 nM1 => ⟨by show 1 ≤ sizeLine; decide, fun M2 nM2 => ⟨.ref p, rfl, .int (c : Int), rfl, p, q0, c, rfl, c1, c3, ((x12.ex (Ex.new nM0)).ex (Ex.new nM1)).ex (Ex.new nM2), fun s8 v8 H8 hs8 o8 x8' dq8 => ⟨by show 1 ≤ sizeLine; decide, fun M3 nM3 => ⟨by show 3 ≤ sizeLine; decide, fun M4 nM4 => ⟨.ref p, rfl, p, q0, 3, rfl, by decide, by decide, (x8'.ex (Ex.new nM3)).ex (Ex.new nM4), fun r9 H13 r90 r93 o9 x13 => ?_⟩⟩⟩⟩⟩⟩⟩
    have M0p : M0 ≠ p := new_ne nM0 x12.isP
    have M1p : M1 ≠ p := new_ne nM1 (x12.ex (Ex.new nM0)).isP
    have M2p : M2 ≠ p := new_ne nM2 ((x12.ex (Ex.new nM0)).ex (Ex.new nM1)).isP
    have M3p : M3 ≠ p := new_ne nM3 x8'.isP
    have M4p : M4 ≠ p := new_ne nM4 (x8'.ex (Ex.new nM3)).isP
    have f0 := Ex.new (o := HO.lst []) nM0
    have f1 := Ex.new (o := HO.tup [V.str "end", V.int 1]) nM1
    have f2 := Ex.new (o := HO.lst [V.ref M1]) nM2
    have f3 := Ex.new (o := HO.lst [v8]) nM3
    have f4 := Ex.new (o := HO.lst [V.ref M0, V.ref M2, V.ref M3]) nM4
    have hM0 : H13 M0 = some (.lst []) := o9 _ _ M0p (f4 _ _ (f3 _ _ (o8 _ _ M0p (f2 _ _ (f1 _ _ upd_same)))))
    have hM1 : H13 M1 = some (.tup [.str "end", .int 1]) := o9 _ _ M1p (f4 _ _ (f3 _ _ (o8 _ _ M1p (f2 _ _ upd_same))))
    have hM2 : H13 M2 = some (.lst [.ref M1]) := o9 _ _ M2p (f4 _ _ (f3 _ _ (o8 _ _ M2p upd_same)))
    have hM3 : H13 M3 = some (.lst [v8]) := o9 _ _ M3p (f4 _ _ upd_same)
    have hM4 : H13 M4 = some (.lst [.ref M0, .ref M2, .ref M3]) := o9 _ _ M4p upd_same
    have hd8 : Dp K (Cw (fun z => z = p) H13) v8 (toD s8) := dq_dp (N := fun _ => True) _ _ (dq_to (fun _ _ => trivial) (fun a o n ha => by
      have ap : a ≠ p := new_ne n (((x12.ex f0).ex f1).ex f2).isP
      exact cw_o (o9 _ _ ap (f4 _ _ (f3 _ _ ha))) ap) _ _ dq8)
    obtain ⟨Af, axs, af, hat9, LA, haf, laf, caf⟩ : ∃ Af axs af, atI [V.ref M0, V.ref M2, V.ref M3] r9 = some (.ref Af) ∧ LD K p Af axs (toDs af) H13 ∧ okL c m af 0 ∧ af.length ≤ 1 ∧ cntL af ≤ 1 := by
      rcases (by omega : r9 = 0 ∨ r9 = 1 ∨ r9 = 2) with rfl | rfl | rfl
      · exact ⟨M0, [], [], rfl, ⟨M0p, hM0, .nil⟩, by rw [okL]; trivial, Nat.zero_le _, Nat.zero_le _⟩
      · exact ⟨M2, [.ref M1], [.fin 1], rfl, ⟨M2p, hM2, .cons (.tup (st_of (cw_o hM1 M1p)) (.cons (.str _) (.cons (.int _) .nil))) .nil⟩, by rw [okL, okL, okS]; exact ⟨by decide, trivial⟩, Nat.le_refl _, Nat.le_refl _⟩
      · exact ⟨M3, [v8], [s8], rfl, ⟨M3p, hM3, .cons hd8 .nil⟩, by rw [okL, okL]; exact ⟨(isCmd_ok (m := m) (lv := 0) hs8).1, trivial⟩, Nat.le_refl _, by rw [cntL, (isCmd_ok (m := m) (lv := 0) hs8).2]; exact Nat.le_refl _⟩
    refine ⟨M4, [.ref M0, .ref M2, .ref M3], r9, .ref Af, rfl, rfl, sq_of hM4, hat9, ?_⟩
    have oAf : Oth p H12 H13 := (Oth.of (f0.trans (f1.trans f2))).trans (o8.trans ((Oth.of (f3.trans f4)).trans o9))
    replace LC := LC.oth oAf
    replace LF := LF.oth oAf
    replace LS := LS.oth oAf
    have hC13 := dp_ex (cw_oth (W := fun z => z = p) rfl oAf) _ _ hC12
    clear hM0 hM1 hM2 hM3 hM4 hd8 hat9 f0 f1 f2 f3 f4 nM0 nM1 nM2 nM3 nM4 dq8 hC12
    show tSeq _ _ _ [some (.ref a), some (.ref p), some (.int (c : Int)), some (.int (m : Int)), some (.ref Cd), some (.ref Wd2), some (.ref Fa), some (.ref Ha), some (.ref R), some vC, some (.ref Si), some (.ref Af), none, none, none, none, none, none, none, none, none, none, none, none] H13
    -- the others
    refine q_run ?_
    refine ⟨.int (m : Int), rfl, (m : Int), 2, rfl, rfl, (m : Int) - 2, rfl, by omega, by omega, fun O nO => ?_⟩
    have Op : O ≠ p := new_ne nO x13.isP
    have Oq : O ≠ q0 := new_ne nO x13.isQ
    refine lc_range (lo := 0) (n := ((m : Int) - 2).toNat) (fun i H' => ∃ (bs : List (List Stm)) (xs : List V), bs.length = i ∧ (∀ b ∈ bs, okB c m b) ∧ Oth p H13 H' ∧ Pool H' p q0 ∧ H' O = some (.lst xs) ∧ DqAll (fun a => New H13 a ∧ a ≠ O) H' xs (bs.map bD))
      ⟨[], [], rfl, fun _ h => (nomatch h), .of (Ex.new nO), x13.ex (Ex.new nO), upd_same, .nil⟩ (fun i H' hi hP => ?_) (fun H14 hP => ?_)
    · obtain ⟨bs, xs, rfl, hok, o, x', hD, hd⟩ := hP
      have lxs : xs.length = bs.length := by rw [dqa_len hd, List.length_map]
      show wipe ((wipe _ _).set 23 (some (.int ((0 : Int) + (bs.length : Int))))) _ = wipe _ _ ∧ _
      refine ⟨rfl, .ref p, rfl, .int (c : Int), rfl, .int (m : Int), rfl, p, q0, c, m, 4, rfl, by decide, by decide, c1, c3, by omega, m3, x', fun b v H2 hb hlb hbn hcb o2 x2 dq => ⟨xs, o2 _ _ Op hD, sz_lt (by omega), bs ++ [b], xs ++ [v], by simp, fun y hy => ?_, fun a u na ha => ?_, x2.upd Op Oq, upd_same, ?_⟩⟩
      · rcases List.mem_append.mp hy with hy | hy
        · exact hok y hy
        · rw [List.mem_singleton.mp hy]; exact ⟨hb, by omega, by omega⟩
      · rw [upd_ne (ne_of_none ha nO)]
        exact o2 _ _ na (o _ _ na ha)
      · rw [List.map_append]
        refine dqa_app (dqa_to (fun _ h => h) (fun a u n ha => ?_) _ _ hd) (.cons (dq_to (fun a n => ⟨new_back o x'.isP n, new_ne n ⟨_, hD⟩⟩) (fun a u n ha => by rw [upd_ne (new_ne n ⟨_, hD⟩)]; exact ha) _ _ dq) .nil)
        rw [upd_ne n.2]
        exact o2 _ _ (new_ne n.1 x13.isP) ha
    · obtain ⟨os, oxs, hol, hoo, oO, x14, hO, hod⟩ := hP
      have hosl : os.length + 2 = m := by rw [hol]; omega
      have LO : LD K p O oxs (os.map bD) H14 := ⟨Op, hO, dqa_dpa (N := fun _ => True) _ _ (dqa_to (fun _ _ => trivial) (fun a o n ha => cw_o (W := fun z => z = p) ha (new_ne n.1 x13.isP)) _ _ hod)⟩
      replace LC := LC.oth oO
      replace LF := LF.oth oO
      replace LS := LS.oth oO
      replace LA := LA.oth oO
      have hC14 := dp_ex (cw_oth (W := fun z => z = p) rfl oO) _ _ hC13
      clear hod hC13 nO
      have hP14 := hasP x14
      show tSeq _ _ _ [some (.ref a), some (.ref p), some (.int (c : Int)), some (.int (m : Int)), some (.ref Cd), some (.ref Wd2), some (.ref Fa), some (.ref Ha), some (.ref R), some vC, some (.ref Si), some (.ref Af), some (.ref O), none, none, none, none, none, none, none, none, none, none, none] H14
      refine q_asgLw (W := fun z => z = p) (ds := (bo1 rw bf bh af cd os).map bD) (ld_cat (ds := [bD (bf ++ (.call 1 rw bh [.fin 1] :: af)), bD cd]) (es := os.map bD) (ld_lw hP14 (lw_lst (edc_cons (epw_is (lw_ep hP14 (ld_cat (ld_lw hP14 (ld_cat (LF.var rfl) (ld_lw hP14 (lw_one (epc_ev (ev_var rfl) hC14))) (by rw [toDs_len]; show _ + 1 ≤ _; omega))) (LA.var rfl) (by rw [List.length_append, toDs_len, toDs_len]; show _ + 1 + _ ≤ _; omega))) (show PyData.list (toDs bf ++ [_] ++ toDs af) = .list (toDs (bf ++ _)) by rw [toDs_app9, toDs, List.append_assoc]; rfl)) (edc_cons (epc_ev (ev_var rfl) LC.dp) edc_nil)) (by show 2 ≤ 100000; decide))) (LO.var rfl) (by rw [List.length_map]; show 2 + _ ≤ _; omega)) fun Pl pxs H15 nPl e15 hPl hpx => ?_
      have x15 := x14.ex e15
      have LP : LD K p Pl pxs ((bo1 rw bf bh af cd os).map bD) H15 := ⟨new_ne nPl x14.isP, hPl, hpx⟩
      replace LC := LC.oth (.of e15)
      replace LF := LF.oth (.of e15)
      replace LS := LS.oth (.of e15)
      replace LA := LA.oth (.of e15)
      replace LO := LO.oth (.of e15)
      have hP15 := hasP x15
      show tSeq _ _ _ [some (.ref a), some (.ref p), some (.int (c : Int)), some (.int (m : Int)), some (.ref Cd), some (.ref Wd2), some (.ref Fa), some (.ref Ha), some (.ref R), some vC, some (.ref Si), some (.ref Af), some (.ref O), some (.ref Pl), none, none, none, none, none, none, none, none, none, none] H15
      refine q_asgLw (W := fun z => z = p) (ds := (bo2 rw bf bh af cd os).map bD) (ld_cat (ds := [bD (bf ++ (.keep [] (.carry rw :: cd) :: (bh ++ af))), bD cd]) (es := os.map bD) (ld_lw hP15 (lw_lst (edc_cons (epw_is (lw_ep hP15 (ld_cat (ld_lw hP15 (ld_cat (LF.var rfl) (LS.var rfl) (by rw [toDs_len, toDs_len, List.length_cons]; omega))) (LA.var rfl) (by rw [List.length_append, toDs_len, toDs_len, toDs_len, List.length_cons]; omega))) (show PyData.list (toDs bf ++ toDs _ ++ toDs af) = .list (toDs (bf ++ _)) by rw [← toDs_app9, ← toDs_app9, List.append_assoc]; rfl)) (edc_cons (epc_ev (ev_var rfl) LC.dp) edc_nil)) (by show 2 ≤ 100000; decide))) (LO.var rfl) (by rw [List.length_map]; show 2 + _ ≤ _; omega)) fun Ot txs H16 nOt e16 hOt htx => ?_
      have x16 := x15.ex e16
      have LT : LD K p Ot txs ((bo2 rw bf bh af cd os).map bD) H16 := ⟨new_ne nOt x15.isP, hOt, htx⟩
      replace LP := LP.oth (.of e16)
      have okc : okB c m cd := ⟨okL_down cd hcd (by decide), by omega, by omega⟩
      have hk1 : ∀ b ∈ bo1 rw bf bh af cd os, okB c m b := fun b hb => by
        rcases List.mem_cons.mp hb with rfl | hb
        · exact okB_bo1 c1 m2 okr hbf lbf cbf2 hbh lbh cbh2 haf laf caf
        · rcases List.mem_cons.mp hb with rfl | hb
          · exact okc
          · exact hoo b hb
      have hk2 : ∀ b ∈ bo2 rw bf bh af cd os, okB c m b := fun b hb => by
        rcases List.mem_cons.mp hb with rfl | hb
        · exact okB_bo2 c1 okr hbf lbf cbf2 hbh lbh cbh2 haf laf caf hcd lcd ccd
        · rcases List.mem_cons.mp hb with rfl | hb
          · exact okc
          · exact hoo b hb
      have hm1 : (bo1 rw bf bh af cd os).length = m := by rw [bo1, List.length_cons, List.length_cons]; omega
      have hm2 : (bo2 rw bf bh af cd os).length = m := by rw [bo2, List.length_cons, List.length_cons]; omega
      have set9 := fun (bits : List Nat) (v : List Int) (l : Int) => @set_in bits c m rw bf bh af cd os v l
      generalize hb1 : bo1 rw bf bh af cd os = B1 at LP hk1 hm1 set9
      generalize hb2 : bo2 rw bf bh af cd os = B2 at LT hk2 hm2 set9
      clear LC LF LS LA LO hC14 hb1 hb2 hPl hpx hOt htx
      have hP16 := hasP x16
      show tSeq _ _ _ [some (.ref a), some (.ref p), some (.int (c : Int)), some (.int (m : Int)), some (.ref Cd), some (.ref Wd2), some (.ref Fa), some (.ref Ha), some (.ref R), some vC, some (.ref Si), some (.ref Af), some (.ref O), some (.ref Pl), some (.ref Ot), none, none, none, none, none, none, none, none, none] H16
      -- the books
      refine q_lst2P (ep_bookK o7 hP16 (ev_var rfl) (ev_var rfl) LP.dp hm1 c1 c3 (by omega) m3 hk1) (ep_bookK o7 hP16 (ev_var rfl) (ev_var rfl) LT.dp hm2 c1 c3 (by omega) m3 hk2) fun u1 u2 Bk H17 H18 e17 hX1 e18 hX2 nBk => ?_
      obtain ⟨X1, vb1, rfl, hB1, dv1⟩ := hX1
      obtain ⟨X2, vb2, rfl, hB2, dv2⟩ := hX2
      have eB := Ex.new (o := .lst [V.ref X1, .ref X2]) nBk
      have hBk : (upd H18 Bk (.lst [V.ref X1, .ref X2])) Bk = some (.lst [.ref X1, .ref X2]) := upd_same
      have x18 := ((x16.ex e17).ex e18)
      have Bkp : Bk ≠ p := new_ne nBk x18.isP
      have x19 := x18.ex eB
      generalize upd H18 Bk (.lst [V.ref X1, .ref X2]) = H19 at eB hBk x19 ⊢
      have fB : ∀ {b : List (List Stm)}, (∀ x ∈ b, okB c m x) → b.length = m → fit (toB b) 14 = true := fun h hl => toB_fit c3 (by omega) h
      have G1 : BkG K C (Cw (fun z => z = p) H19) X1 c B1 := ⟨⟨vb1, hB1.imp fun d h => cw_mono (e18.trans eB) _ _ h, dp_ex (cw_mono (e18.trans eB)) _ _ dv1⟩, fB hk1 hm1, by rw [hm1]; exact hk1, c3, by omega⟩
      have G2 : BkG K C (Cw (fun z => z = p) H19) X2 c B2 := ⟨⟨vb2, hB2.imp fun d h => cw_mono eB _ _ h, dp_ex (cw_mono eB) _ _ dv2⟩, fB hk2 hm2, by rw [hm2]; exact hk2, c3, by omega⟩
      replace LP := LP.oth (.of (e17.trans (e18.trans eB)))
      replace LT := LT.oth (.of (e17.trans (e18.trans eB)))
      clear hB1 hB2 dv1 dv2 e17 e18 eB
      show tSeq _ _ _ [some (.ref a), some (.ref p), some (.int (c : Int)), some (.int (m : Int)), some (.ref Cd), some (.ref Wd2), some (.ref Fa), some (.ref Ha), some (.ref R), some vC, some (.ref Si), some (.ref Af), some (.ref O), some (.ref Pl), some (.ref Ot), some (.ref Bk), none, none, none, none, none, none, none, none] H19
      refine q_asgC (ea_cons (ev_var rfl) (ea_cons (ev_var rfl) ea_nil)) fun H20 e20 => ?_
      refine ⟨p, q0, c, rfl, c3, x19.ex e20, fun v T H21 hvl hvb nT o21 x21 hT => ?_⟩
      have Tp : T ≠ p := new_ne nT (x19.ex e20).isP
      refine q_asgC (ea_cons (ev_var rfl) ea_nil) fun H22 e22 => ?_
      refine ⟨p, q0, rfl, x21.ex e22, fun ld Hs hlb os2 xs => ?_⟩
      have oTs := (Oth.of e22).trans os2
      have o19 := ((Oth.of e20).trans o21).trans oTs
      have hTs : Hs T = some (.tup (v.map V.int)) := oTs _ _ Tp hT
      have hBks := o19 _ _ Bkp hBk
      replace G1 := G1.ex (cw_oth (W := fun z => z = p) rfl o19)
      replace G2 := G2.ex (cw_oth (W := fun z => z = p) rfl o19)
      replace LP := LP.oth o19
      replace LT := LT.oth o19
      show tSeq _ _ _ [some (.ref a), some (.ref p), some (.int (c : Int)), some (.int (m : Int)), some (.ref Cd), some (.ref Wd2), some (.ref Fa), some (.ref Ha), some (.ref R), some vC, some (.ref Si), some (.ref Af), some (.ref O), some (.ref Pl), some (.ref Ot), some (.ref Bk), some (.ref T), some (.int ld), none, none, none, none, none, none] Hs
      refine q_forR1 (n := 4) (ea_cons ev_c ea_nil) ⟨by decide, by decide⟩ (fun t σ' H' => ∃ (y18 y19 y20 y21 y22 : Option V), σ' = [some (.ref a), some (.ref p), some (.int (c : Int)), some (.int (m : Int)), some (.ref Cd), some (.ref Wd2), some (.ref Fa), some (.ref Ha), some (.ref R), some vC, some (.ref Si), some (.ref Af), some (.ref O), some (.ref Pl), some (.ref Ot), some (.ref Bk), some (.ref T), some (.int ld), y18, y19, y20, y21, y22, none] ∧ Oth p Hs H' ∧ Pool H' p q0) (fun Ha ea => ⟨_, _, _, _, _, rfl, .of ea, xs.ex ea⟩) (fun t σ' H' ht hP => ?_) (fun σ' H' hP => ?_)
      · obtain ⟨y18, y19, y20, y21, y22, rfl, o, x'⟩ := hP
        have nxt : ∀ (y19 y20 y21 y22 : Option V) {Hz : Hp}, Oth p Hs Hz → Pool Hz p q0 → ∃ (z18 z19 z20 z21 z22 : Option V), [some (.ref a), some (.ref p), some (.int (c : Int)), some (.int (m : Int)), some (.ref Cd), some (.ref Wd2), some (.ref Fa), some (.ref Ha), some (.ref R), some vC, some (.ref Si), some (.ref Af), some (.ref O), some (.ref Pl), some (.ref Ot), some (.ref Bk), some (.ref T), some (.int ld), some (.int (t : Int)), y19, y20, y21, y22, none] = [some (.ref a), some (.ref p), some (.int (c : Int)), some (.int (m : Int)), some (.ref Cd), some (.ref Wd2), some (.ref Fa), some (.ref Ha), some (.ref R), some vC, some (.ref Si), some (.ref Af), some (.ref O), some (.ref Pl), some (.ref Ot), some (.ref Bk), some (.ref T), some (.int ld), z18, z19, z20, z21, z22, none] ∧ Oth p Hs Hz ∧ Pool Hz p q0 := fun y19 y20 y21 y22 Hz oz xz => ⟨_, _, _, _, _, rfl, oz, xz⟩
        show tSeq _ _ _ [some (.ref a), some (.ref p), some (.int (c : Int)), some (.int (m : Int)), some (.ref Cd), some (.ref Wd2), some (.ref Fa), some (.ref Ha), some (.ref R), some vC, some (.ref Si), some (.ref Af), some (.ref O), some (.ref Pl), some (.ref Ot), some (.ref Bk), some (.ref T), some (.int ld), some (.int (t : Int)), y19, y20, y21, y22, none] H'
        refine q_asgC (ea_cons (ev_var rfl) (ea_cons ev_c ea_nil)) fun H9 e9 => ?_
        refine ⟨p, q0, 14, rfl, by decide, x'.ex e9, fun bits D H10 hbl hb1 nD o10 x10 hD => ?_⟩
        have o1 := (o.trans (.of e9)).trans o10
        have cE : Ex (Cw (fun z => z = p) Hs) H10 := (cw_oth (W := fun z => z = p) rfl o1).trans cw_ex
        have g1 := G1.ex cE
        have g2 := G2.ex cE
        have d1 := dp_ex cE _ _ LP.dp
        have d2 := dp_ex cE _ _ LT.dp
        have hT10 := o1 _ _ Tp hTs
        have hBk10 := o1 _ _ Bkp hBks
        obtain ⟨⟨w1, s1⟩, hx1⟩ := lx_start (bits := bits) (l := ld) (fun b hb => (hk1 b hb).1) hm1 c3 m3 (show 0 < m by omega) hvl (show bits.length ≤ 20 by omega)
        obtain ⟨⟨w2, s2⟩, hx2⟩ := lx_start (bits := bits) (l := ld) (fun b hb => (hk2 b hb).1) hm2 c3 m3 (show 0 < m by omega) hvl (show bits.length ≤ 20 by omega)
        have env1 : ∀ {Ha : Hp}, Ex H10 Ha → LEnv K Ha (.ref Pl) B1 bits c m := fun e => ⟨dp_ex e _ _ d1, fun b hb => ⟨0, (hk1 b hb).1⟩, hm1, c3, m3, hb1, by omega⟩
        have env2 : ∀ {Ha : Hp}, Ex H10 Ha → LEnv K Ha (.ref Ot) B2 bits c m := fun e => ⟨dp_ex e _ _ d2, fun b hb => ⟨0, (hk2 b hb).1⟩, hm2, c3, m3, hb1, by omega⟩
        show tSeq _ _ _ [some (.ref a), some (.ref p), some (.int (c : Int)), some (.int (m : Int)), some (.ref Cd), some (.ref Wd2), some (.ref Fa), some (.ref Ha), some (.ref R), some vC, some (.ref Si), some (.ref Af), some (.ref O), some (.ref Pl), some (.ref Ot), some (.ref Bk), some (.ref T), some (.int ld), some (.int (t : Int)), some (.ref D), y20, y21, y22, none] H10
        refine q_asgP (Φ := fun u H => Dp K H u (lpD bits (w1, s1))) (ep_callG9 (ea_cons (ev_var rfl) (ea_cons ev_c (ea_cons (ev_var rfl) (ea_cons (ev_var rfl) (ea_cons (ev_var rfl) ea_nil))))) fun Ha ea Q' q' => ⟨.ref Pl, D, T, bits, B1, c, m, 0, v, ld, (w1, s1), rfl, env1 ea, sq_of (ea _ _ hD), .inr (.inl (.inl (ea _ _ hT10))), hvl, by omega, hx1, fun u Hb eb hu => q' u Hb eb hu⟩) fun v1 H11 e11 hu1 => ?_
        show tSeq _ _ _ [some (.ref a), some (.ref p), some (.int (c : Int)), some (.int (m : Int)), some (.ref Cd), some (.ref Wd2), some (.ref Fa), some (.ref Ha), some (.ref R), some vC, some (.ref Si), some (.ref Af), some (.ref O), some (.ref Pl), some (.ref Ot), some (.ref Bk), some (.ref T), some (.int ld), some (.int (t : Int)), some (.ref D), some v1, y21, y22, none] H11
        refine q_asgP (Φ := fun u H => Dp K H u (lpD bits (w2, s2))) (ep_callG9 (ea_cons (ev_var rfl) (ea_cons ev_c (ea_cons (ev_var rfl) (ea_cons (ev_var rfl) (ea_cons (ev_var rfl) ea_nil))))) fun Ha ea Q' q' => ⟨.ref Ot, D, T, bits, B2, c, m, 0, v, ld, (w2, s2), rfl, env2 (e11.trans ea), sq_of ((e11.trans ea) _ _ hD), .inr (.inl (.inl ((e11.trans ea) _ _ hT10))), hvl, by omega, hx2, fun u Hb eb hu => q' u Hb eb hu⟩) fun v2 H12 e12 hu2 => ?_
        have e02 := e11.trans e12
        have hu1' := dp_ex e12 _ _ hu1
        obtain ⟨A1, xs1, rfl, hA1, hh1⟩ := head_at hu1'
        obtain ⟨A2, xs2, rfl, hA2, hh2⟩ := head_at hu2
        have fin : ∀ {Hz : Hp}, Ex H12 Hz → Oth p Hs Hz ∧ Pool Hz p q0 := fun e => ⟨o1.trans (.of (e02.trans e)), x10.ex (e02.trans e)⟩
        show tSeq _ _ _ [some (.ref a), some (.ref p), some (.int (c : Int)), some (.int (m : Int)), some (.ref Cd), some (.ref Wd2), some (.ref Fa), some (.ref Ha), some (.ref R), some vC, some (.ref Si), some (.ref Af), some (.ref O), some (.ref Pl), some (.ref Ot), some (.ref Bk), some (.ref T), some (.int ld), some (.int (t : Int)), some (.ref D), some (.ref A1), some (.ref A2), y22, none] H12
        refine q_when (b := decide (headV bits s1 = .str "long") || decide (headV bits s2 = .str "long")) (et_or (et_test (ev_op (ev_op (ev_var rfl) ev_c (rv_ixL hA1 (atI_nat (j := 0) hh1))) ev_c (rv_eq head_long.1))) fun _ => et_test (ev_op (ev_op (ev_var rfl) ev_c (rv_ixL hA2 (atI_nat (j := 0) hh2))) ev_c (rv_eq head_long.1))) (fun _ Ha ea => ?_) (fun hb H13 e13 => ?_)
        · exact nxt _ _ _ _ (fin ea).1 (fin ea).2
        · rw [Bool.or_eq_false_iff, decide_eq_false_iff_not, decide_eq_false_iff_not] at hb
          have n1 := head_long.2 hb.1
          have n2 := head_long.2 hb.2
          obtain ⟨r1, hr1⟩ := lx_run (fun b hb => ⟨0, (hk1 b hb).1⟩) hm1 c3 hb1 (by omega) (show 0 < m by omega) hvl hx1 n1
          obtain ⟨r2, hr2⟩ := lx_run (fun b hb => ⟨0, (hk2 b hb).1⟩) hm2 c3 hb1 (by omega) (show 0 < m by omega) hvl hx2 n2
          have st1 := (lx_keep (fun b hb => ⟨0, (hk1 b hb).1⟩) hm1 c3 640 (.proc 0) _ w1 s1 (show 0 < m by omega) (by rw [← hm1]; exact ls0_ok hvl) hx1).ok.st
          have st2 := (lx_keep (fun b hb => ⟨0, (hk2 b hb).1⟩) hm2 c3 640 (.proc 0) _ w2 s2 (show 0 < m by omega) (by rw [← hm2]; exact ls0_ok hvl) hx2).ok.st
          have D1 := due_run hr1 n1 st1
          have D2 := due_run hr2 n2 st2
          have hpair := told_pair (bits := bits) n1 n2 (set9 bits v ld nfc c3 (fun b hb => ⟨0, (hk1 b hb).1⟩) (fun b hb => ⟨0, (hk2 b hb).1⟩) hm1 hm2 (by omega) hvl hx1 hx2 n1 n2)
          have e03 := e02.trans e13
          refine q_asgP (Φ := fun u H => Dp K H u (.list [lpD bits (w1, s1), lpD bits (w2, s2)])) (ep_lstD (K := K) (ed_cons (ep_callG9 (ea_cons (ev_op (ev_var rfl) ev_c (rv_ixL (sq_of (e03 _ _ hBk10)) (atI_nat (j := 0) rfl))) (ea_cons (ev_var rfl) (ea_cons (ev_var rfl) (ea_cons (ev_var rfl) ea_nil)))) fun Ha ea Q' q' => ⟨X1, D, T, c, 0, B1, bits, v, ld, _, rfl, rfl, ⟨g1.ex (e03.trans ea), by omega, hb1⟩, sq_of ((e03.trans ea) _ _ hD), .inl (.inl ((e03.trans ea) _ _ hT10)), hvl, D1, fun u Hb eb hu => q' u Hb eb hu⟩) (ed_cons (ep_callG9 (ea_cons (ev_op (ev_var rfl) ev_c (rv_ixL (sq_of (e03 _ _ hBk10)) (atI_nat (j := 1) rfl))) (ea_cons (ev_var rfl) (ea_cons (ev_var rfl) (ea_cons (ev_var rfl) ea_nil)))) fun Ha ea Q' q' => ⟨X2, D, T, c, 0, B2, bits, v, ld, _, rfl, rfl, ⟨g2.ex (e03.trans ea), by omega, hb1⟩, sq_of ((e03.trans ea) _ _ hD), .inl (.inl ((e03.trans ea) _ _ hT10)), hvl, D2, fun u Hb eb hu => q' u Hb eb hu⟩) ed_nil)) (by show 2 ≤ 100000; decide)) fun uT H14 e14 hTold => ?_
          obtain ⟨Tl, txs2, rfl, sTl, hxT⟩ := dp_lst hTold
          cases hxT with
          | cons hq1 hxT =>
          cases hxT with
          | cons hq2 hxT =>
          cases hxT
          have hu1e := dp_ex (e13.trans e14) _ _ hu1'
          have hu2e := dp_ex (e13.trans e14) _ _ hu2
          have i0 : ∀ {σ : L2.St} {Hz : Hp}, Ex H14 Hz → σ[22]? = some (some (.ref Tl)) → Ev (tOp (rIxL K) (tVar 22) (tC (.int 0))) σ Hz _ := fun e hσ => ev_op (ev_var hσ) ev_c (rv_ixL (ex_l e sTl) (atI_nat (j := 0) rfl))
          have i1 : ∀ {σ : L2.St} {Hz : Hp}, Ex H14 Hz → σ[22]? = some (some (.ref Tl)) → Ev (tOp (rIxL K) (tVar 22) (tC (.int 1))) σ Hz _ := fun e hσ => ev_op (ev_var hσ) ev_c (rv_ixL (ex_l e sTl) (atI_nat (j := 1) rfl))
          show tSeq _ _ _ [some (.ref a), some (.ref p), some (.int (c : Int)), some (.int (m : Int)), some (.ref Cd), some (.ref Wd2), some (.ref Fa), some (.ref Ha), some (.ref R), some vC, some (.ref Si), some (.ref Af), some (.ref O), some (.ref Pl), some (.ref Ot), some (.ref Bk), some (.ref T), some (.int ld), some (.int (t : Int)), some (.ref D), some (.ref A1), some (.ref A2), some (.ref Tl), none] H14
          have hf1 : fit (.tuple (s1.stand.map PyData.int)) 12 = true := by rw [fit, fit_ints, List.length_map, st1, decide_eq_true (show c ≤ 10000 by omega)]; rfl
          rcases hpair with ⟨i, z1, z2⟩ | ⟨wy, l, k1, k2, z1, z2, hkk⟩
          · rw [z1] at hq1 hu1e
            rw [z2] at hq2 hu2e
            have hq1' := hq1
            have hq2' := hq2
            obtain ⟨b1, rfl, sb1⟩ := lp2 hq1'
            obtain ⟨b2, rfl, sb2⟩ := lp2 hq2'
            refine q_when (b := false) (et_or (a := false) (b := false) (et_not (et_B (ev_same (n := 14) (d := .list [.list [.str "no", .int i], .list [.str "no", .int i]]) (ep_dp (ev_var rfl) (.lst sTl (.cons hq1 (.cons hq2 .nil)))) (ep_lstD (ed_cons (ep_dp (ev_var rfl) hu1e) (ed_cons (ep_dp (ev_var rfl) hu2e) ed_nil)) (by show 2 ≤ 100000; decide)) rfl))) fun _ => et_not (et_B (ev_same (n := 14) (d := .list [.str "no", .int i]) (ep_take4 (ds := [.str "no", .int i]) (i0 (Ex.refl _) rfl) sb1 (.cons (.str _) (.cons (.int _) .nil)) (.inl rfl)) (ep_take4 (ds := [.str "no", .int i]) (i1 (Ex.refl _) rfl) sb2 (.cons (.str _) (.cons (.int _) .nil)) (.inl rfl)) rfl))) (fun z => (nomatch z)) fun _ H15 e15 => ?_
            exact s_when (b := false) (et_is (et_and (a := false) (b := false) (et_is (et_test (ev_op (ev_op (i0 e15 rfl) ev_c (rv_ixL (ex_l e15 sb1) (atI_nat (j := 0) rfl))) ev_c (rv_eq rfl))) (by decide +kernel)) fun z => (nomatch z)) rfl) (fun z => (nomatch z)) fun _ Hz ez => nxt _ _ _ _ (fin (e13.trans (e14.trans (e15.trans ez)))).1 (fin (e13.trans (e14.trans (e15.trans ez)))).2
          · rw [z1] at hq1 hu1e
            rw [z2] at hq2 hu2e
            have hq1' := hq1
            have hq2' := hq2
            obtain ⟨b1, T1, rfl, sb1, sT1⟩ := lp5 hq1'
            obtain ⟨b2, T2, rfl, sb2, sT2⟩ := lp5 hq2'
            have hLk : ∀ k : Nat, fit (.list [.str "run", wyD wy, .tuple (s1.stand.map PyData.int), .int l, .int (k : Int)]) 13 = true := fun k => by cases wy <;> (rw [fit, fitAll, fitAll, fitAll, hf1]; rfl)
            have hf1' : fit (.tuple (s1.stand.map PyData.int)) 13 = true := by rw [fit, fit_ints, List.length_map, st1, decide_eq_true (show c ≤ 10000 by omega)]; rfl
            refine q_when (b := false) (et_or (a := false) (b := false) (et_not (et_B (ev_same (n := 14) (d := .list [.list [.str "run", wyD wy, .tuple (s1.stand.map PyData.int), .int l, .int (k1 : Int)], .list [.str "run", wyD wy, .tuple (s1.stand.map PyData.int), .int l, .int (k2 : Int)]]) (ep_dp (ev_var rfl) (.lst sTl (.cons hq1 (.cons hq2 .nil)))) (ep_lstD (ed_cons (ep_dp (ev_var rfl) hu1e) (ed_cons (ep_dp (ev_var rfl) hu2e) ed_nil)) (by show 2 ≤ 100000; decide)) (by rw [fit, fitAll, hLk, fitAll, hLk]; rfl)))) fun _ => et_not (et_B (ev_same (n := 14) (d := .list [.str "run", wyD wy, .tuple (s1.stand.map PyData.int), .int l]) (ep_take4 (ds := [.str "run", wyD wy, .tuple (s1.stand.map PyData.int), .int l, .int (k1 : Int)]) (i0 (Ex.refl _) rfl) sb1 (.cons (.str _) (.cons (wy_dp wy) (.cons (.tup sT1 (dpa_ints _)) (.cons (.int _) (.cons (.int _) .nil))))) (.inr (by show 4 ≤ 5; decide))) (ep_take4 (ds := [.str "run", wyD wy, .tuple (s1.stand.map PyData.int), .int l, .int (k2 : Int)]) (i1 (Ex.refl _) rfl) sb2 (.cons (.str _) (.cons (wy_dp wy) (.cons (.tup sT2 (dpa_ints _)) (.cons (.int _) (.cons (.int _) .nil))))) (.inr (by show 4 ≤ 5; decide))) (by cases wy <;> (rw [fit, fitAll, fitAll, fitAll, hf1']; rfl))))) (fun z => (nomatch z)) fun _ H15 e15 => ?_
            exact s_when (b := false) (et_is (et_and (a := true) (b := false) (et_is (et_test (ev_op (ev_op (i0 e15 rfl) ev_c (rv_ixL (ex_l e15 sb1) (atI_nat (j := 0) rfl))) ev_c (rv_eq rfl))) (by decide +kernel)) fun _ => et_is (et_test (ev_op (ev_op (i1 e15 rfl) ev_c (rv_ixL (ex_l e15 sb2) (atI_nat (j := 4) rfl))) (ev_op (i0 e15 rfl) ev_c (rv_ixL (ex_l e15 sb1) (atI_nat (j := 4) rfl))) rv_I0)) (by rw [decide_eq_false]; omega)) rfl) (fun z => (nomatch z)) fun _ Hz ez => nxt _ _ _ _ (fin (e13.trans (e14.trans (e15.trans ez)))).1 (fin (e13.trans (e14.trans (e15.trans ez)))).2
      · obtain ⟨y18, y19, y20, y21, y22, rfl, o, x'⟩ := hP
        exact s_ret ev_c fun H3 e3 => q H3
end
theorem mem_cases {α : Type} {p : α → Prop} {a : α} {l : List α} (h : p a) (k : ∀ q ∈ l, p q) : ∀ q ∈ a :: l, p q := fun q hq => (List.mem_cons.mp hq).elim (fun e => by rw [e]; exact h) (k q)
/-! ### what the top has written; the end -/
theorem all_mk {l : PySem.W.OpenLaw} {w : World} {K : PySem.W.Frag} {h : Heap} {mg : Str → Option Value} {fa : Addr} (X : K.In h) (G : h.Ns mainGlobals mg) (hfa : mg "law" = some (.ref fa))
    {odis_integer anis_integer : Option Addr} {slis_integer : Array (Option Value)} {ocis_integer kVis_integer dcis_integer pmis_integer cdis_integer ctis_integer : Value} {fis_integer : Addr} {odis_between anis_between : Option Addr} {slis_between : Array (Option Value)} {ocis_between kVis_between dcis_between pmis_between cdis_between ctis_between : Value} {fis_between : Addr} {odis_bit anis_bit : Option Addr} {slis_bit : Array (Option Value)} {ocis_bit kVis_bit dcis_bit pmis_bit cdis_bit ctis_bit : Value} {fis_bit : Addr} {odis_index anis_index : Option Addr} {slis_index : Array (Option Value)} {ocis_index kVis_index dcis_index pmis_index cdis_index ctis_index : Value} {fis_index : Addr} {odis_cell_list anis_cell_list : Option Addr} {slis_cell_list : Array (Option Value)} {ocis_cell_list kVis_cell_list dcis_cell_list pmis_cell_list cdis_cell_list ctis_cell_list : Value} {fis_cell_list : Addr} {odcopied ancopied : Option Addr} {slcopied : Array (Option Value)} {occopied kVcopied dccopied pmcopied cdcopied ctcopied : Value} {fcopied : Addr} {odis_row anis_row : Option Addr} {slis_row : Array (Option Value)} {ocis_row kVis_row dcis_row pmis_row cdis_row ctis_row : Value} {fis_row : Addr} {odis_block_pair anis_block_pair : Option Addr} {slis_block_pair : Array (Option Value)} {ocis_block_pair kVis_block_pair dcis_block_pair pmis_block_pair cdis_block_pair ctis_block_pair : Value} {fis_block_pair : Addr} {odis_sized anis_sized : Option Addr} {slis_sized : Array (Option Value)} {ocis_sized kVis_sized dcis_sized pmis_sized cdis_sized ctis_sized : Value} {fis_sized : Addr} {odis_statement anis_statement : Option Addr} {slis_statement : Array (Option Value)} {ocis_statement kVis_statement dcis_statement pmis_statement cdis_statement ctis_statement : Value} {fis_statement : Addr} {odblocks_of anblocks_of : Option Addr} {slblocks_of : Array (Option Value)} {ocblocks_of kVblocks_of dcblocks_of pmblocks_of cdblocks_of ctblocks_of : Value} {fblocks_of : Addr} {odplaces anplaces : Option Addr} {slplaces : Array (Option Value)} {ocplaces kVplaces dcplaces pmplaces cdplaces ctplaces : Value} {fplaces : Addr} {odentries anentries : Option Addr} {slentries : Array (Option Value)} {ocentries kVentries dcentries pmentries cdentries ctentries : Value} {fentries : Addr} {odfits anfits : Option Addr} {slfits : Array (Option Value)} {ocfits kVfits dcfits pmfits cdfits ctfits : Value} {ffits : Addr} {odfirst_fault anfirst_fault : Option Addr} {slfirst_fault : Array (Option Value)} {ocfirst_fault kVfirst_fault dcfirst_fault pmfirst_fault cdfirst_fault ctfirst_fault : Value} {ffirst_fault : Addr} {odcheck_bodies ancheck_bodies : Option Addr} {slcheck_bodies : Array (Option Value)} {occheck_bodies kVcheck_bodies dccheck_bodies pmcheck_bodies cdcheck_bodies ctcheck_bodies : Value} {fcheck_bodies : Addr} {odstatement_at anstatement_at : Option Addr} {slstatement_at : Array (Option Value)} {ocstatement_at kVstatement_at dcstatement_at pmstatement_at cdstatement_at ctstatement_at : Value} {fstatement_at : Addr} {CBook : Addr} {tLIST_LIMIT : Tok} {tPROCEDURE_LIMIT : Tok} {tLAST_LEVEL : Tok} {tROW_LIMIT : Tok} {tMOST_CELLS : Tok} {tMOST_PROCEDURES : Tok} {a_SIZES : Addr} {esSIZES : Array DictEntry} {nSIZES : Nat} {tSIZES0 tSIZES1 tSIZES2 tSIZES3 tSIZES4 tSIZES5 tSIZES6 : Tok} {odBook___init__ anBook___init__ : Option Addr} {slBook___init__ : Array (Option Value)} {ocBook___init__ kVBook___init__ dcBook___init__ pmBook___init__ cdBook___init__ ctBook___init__ : Value} {fBook___init__ : Addr} {odBook_cells anBook_cells : Option Addr} {slBook_cells : Array (Option Value)} {ocBook_cells kVBook_cells dcBook_cells pmBook_cells cdBook_cells ctBook_cells : Value} {fBook_cells : Addr} {odBook_bodies anBook_bodies : Option Addr} {slBook_bodies : Array (Option Value)} {ocBook_bodies kVBook_bodies dcBook_bodies pmBook_bodies cdBook_bodies ctBook_bodies : Value} {fBook_bodies : Addr} {odBook___len__ anBook___len__ : Option Addr} {slBook___len__ : Array (Option Value)} {ocBook___len__ kVBook___len__ dcBook___len__ pmBook___len__ cdBook___len__ ctBook___len__ : Value} {fBook___len__ : Addr} {CFrame : Addr} {odFrame___init__ anFrame___init__ : Option Addr} {slFrame___init__ : Array (Option Value)} {ocFrame___init__ kVFrame___init__ dcFrame___init__ pmFrame___init__ cdFrame___init__ ctFrame___init__ : Value} {fFrame___init__ : Addr} {CExecution : Addr} {odExecution___init__ anExecution___init__ : Option Addr} {slExecution___init__ : Array (Option Value)} {ocExecution___init__ kVExecution___init__ dcExecution___init__ pmExecution___init__ cdExecution___init__ ctExecution___init__ : Value} {fExecution___init__ : Addr} {odExecution__bit anExecution__bit : Option Addr} {slExecution__bit : Array (Option Value)} {ocExecution__bit kVExecution__bit dcExecution__bit pmExecution__bit cdExecution__bit ctExecution__bit : Value} {fExecution__bit : Addr} {odExecution__open anExecution__open : Option Addr} {slExecution__open : Array (Option Value)} {ocExecution__open kVExecution__open dcExecution__open pmExecution__open cdExecution__open ctExecution__open : Value} {fExecution__open : Addr} {odExecution__begin anExecution__begin : Option Addr} {slExecution__begin : Array (Option Value)} {ocExecution__begin kVExecution__begin dcExecution__begin pmExecution__begin cdExecution__begin ctExecution__begin : Value} {fExecution__begin : Addr} {odExecution__advance anExecution__advance : Option Addr} {slExecution__advance : Array (Option Value)} {ocExecution__advance kVExecution__advance dcExecution__advance pmExecution__advance cdExecution__advance ctExecution__advance : Value} {fExecution__advance : Addr} {odExecution__execute anExecution__execute : Option Addr} {slExecution__execute : Array (Option Value)} {ocExecution__execute kVExecution__execute dcExecution__execute pmExecution__execute cdExecution__execute ctExecution__execute : Value} {fExecution__execute : Addr} {odExecution__command anExecution__command : Option Addr} {slExecution__command : Array (Option Value)} {ocExecution__command kVExecution__command dcExecution__command pmExecution__command cdExecution__command ctExecution__command : Value} {fExecution__command : Addr} {odExecution__leave anExecution__leave : Option Addr} {slExecution__leave : Array (Option Value)} {ocExecution__leave kVExecution__leave dcExecution__leave pmExecution__leave cdExecution__leave ctExecution__leave : Value} {fExecution__leave : Addr} {odExecution__close anExecution__close : Option Addr} {slExecution__close : Array (Option Value)} {ocExecution__close kVExecution__close dcExecution__close pmExecution__close cdExecution__close ctExecution__close : Value} {fExecution__close : Addr} {odExecution__end anExecution__end : Option Addr} {slExecution__end : Array (Option Value)} {ocExecution__end kVExecution__end dcExecution__end pmExecution__end cdExecution__end ctExecution__end : Value} {fExecution__end : Addr} {CNoRun dNNoRun : Addr} {nmNoRun qnNoRun : Str} {bsNoRun bmNoRun suNoRun : List Value} {snNoRun : List Str} {abNoRun : Bool} {coNoRun : Option Bool} {ddNoRun : Option Addr} {kaNoRun kbNoRun kcNoRun kdNoRun keNoRun : Option Value} {odNoRun___init__ anNoRun___init__ : Option Addr} {slNoRun___init__ : Array (Option Value)} {ocNoRun___init__ kVNoRun___init__ dcNoRun___init__ pmNoRun___init__ cdNoRun___init__ ctNoRun___init__ : Value} {fNoRun___init__ : Addr} {CNoProcedure : Addr} {CNoBoard : Addr} {CNoNumber : Addr} {CBoardError : Addr} {odis_board anis_board : Option Addr} {slis_board : Array (Option Value)} {ocis_board kVis_board dcis_board pmis_board cdis_board ctis_board : Value} {fis_board : Addr} {odcheck_bits ancheck_bits : Option Addr} {slcheck_bits : Array (Option Value)} {occheck_bits kVcheck_bits dccheck_bits pmcheck_bits cdcheck_bits ctcheck_bits : Value} {fcheck_bits : Addr} {odexecuted anexecuted : Option Addr} {slexecuted : Array (Option Value)} {ocexecuted kVexecuted dcexecuted pmexecuted cdexecuted ctexecuted : Value} {fexecuted : Addr} {odbehind anbehind : Option Addr} {slbehind : Array (Option Value)} {ocbehind kVbehind dcbehind pmbehind cdbehind ctbehind : Value} {fbehind : Addr} {odrun_of anrun_of : Option Addr} {slrun_of : Array (Option Value)} {ocrun_of kVrun_of dcrun_of pmrun_of cdrun_of ctrun_of : Value} {frun_of : Addr} {odgiven_board angiven_board : Option Addr} {slgiven_board : Array (Option Value)} {ocgiven_board kVgiven_board dcgiven_board pmgiven_board cdgiven_board ctgiven_board : Value} {fgiven_board : Addr} {odplayed anplayed : Option Addr} {slplayed : Array (Option Value)} {ocplayed dcplayed pmplayed cdplayed ctplayed : Value} {fplayed kDplayed : Addr} {kTplayed_n : Tok} {od_law_pool an_law_pool : Option Addr} {sl_law_pool : Array (Option Value)} {oc_law_pool kV_law_pool dc_law_pool pm_law_pool cd_law_pool ct_law_pool : Value} {f_law_pool : Addr} {od_law_draw an_law_draw : Option Addr} {sl_law_draw : Array (Option Value)} {oc_law_draw kV_law_draw dc_law_draw pm_law_draw cd_law_draw ct_law_draw : Value} {f_law_draw : Addr} {od_law_number an_law_number : Option Addr} {sl_law_number : Array (Option Value)} {oc_law_number kV_law_number dc_law_number pm_law_number cd_law_number ct_law_number : Value} {f_law_number : Addr} {od_law_board an_law_board : Option Addr} {sl_law_board : Array (Option Value)} {oc_law_board kV_law_board dc_law_board pm_law_board cd_law_board ct_law_board : Value} {f_law_board : Addr} {od_law_row an_law_row : Option Addr} {sl_law_row : Array (Option Value)} {oc_law_row kV_law_row dc_law_row pm_law_row cd_law_row ct_law_row : Value} {f_law_row : Addr} {od_law_command an_law_command : Option Addr} {sl_law_command : Array (Option Value)} {oc_law_command kV_law_command dc_law_command pm_law_command cd_law_command ct_law_command : Value} {f_law_command : Addr} {od_law_some_cells an_law_some_cells : Option Addr} {sl_law_some_cells : Array (Option Value)} {oc_law_some_cells kV_law_some_cells dc_law_some_cells pm_law_some_cells cd_law_some_cells ct_law_some_cells : Value} {f_law_some_cells : Addr} {od_law_block an_law_block : Option Addr} {sl_law_block : Array (Option Value)} {oc_law_block kV_law_block dc_law_block pm_law_block cd_law_block ct_law_block : Value} {f_law_block : Addr} {od_law_statement an_law_statement : Option Addr} {sl_law_statement : Array (Option Value)} {oc_law_statement kV_law_statement dc_law_statement pm_law_statement cd_law_statement ct_law_statement : Value} {f_law_statement : Addr} {od_law_body an_law_body : Option Addr} {sl_law_body : Array (Option Value)} {oc_law_body kV_law_body dc_law_body pm_law_body cd_law_body ct_law_body : Value} {f_law_body : Addr} {od_law_same an_law_same : Option Addr} {sl_law_same : Array (Option Value)} {oc_law_same kV_law_same dc_law_same pm_law_same cd_law_same ct_law_same : Value} {f_law_same : Addr} {od_law_bit an_law_bit : Option Addr} {sl_law_bit : Array (Option Value)} {oc_law_bit kV_law_bit dc_law_bit pm_law_bit cd_law_bit ct_law_bit : Value} {f_law_bit : Addr} {od_law_value an_law_value : Option Addr} {sl_law_value : Array (Option Value)} {oc_law_value kV_law_value dc_law_value pm_law_value cd_law_value ct_law_value : Value} {f_law_value : Addr} {od_law_execute an_law_execute : Option Addr} {sl_law_execute : Array (Option Value)} {oc_law_execute kV_law_execute dc_law_execute pm_law_execute cd_law_execute ct_law_execute : Value} {f_law_execute : Addr} {od_law_execute_one an_law_execute_one : Option Addr} {sl_law_execute_one : Array (Option Value)} {oc_law_execute_one kV_law_execute_one dc_law_execute_one pm_law_execute_one cd_law_execute_one ct_law_execute_one : Value} {f_law_execute_one : Addr} {od_law_execute_keep an_law_execute_keep : Option Addr} {sl_law_execute_keep : Array (Option Value)} {oc_law_execute_keep kV_law_execute_keep dc_law_execute_keep pm_law_execute_keep cd_law_execute_keep ct_law_execute_keep : Value} {f_law_execute_keep : Addr} {od_law_execute_again an_law_execute_again : Option Addr} {sl_law_execute_again : Array (Option Value)} {oc_law_execute_again kV_law_execute_again dc_law_execute_again pm_law_execute_again cd_law_execute_again ct_law_execute_again : Value} {f_law_execute_again : Addr} {od_law_execute_call an_law_execute_call : Option Addr} {sl_law_execute_call : Array (Option Value)} {oc_law_execute_call kV_law_execute_call dc_law_execute_call pm_law_execute_call cd_law_execute_call ct_law_execute_call : Value} {f_law_execute_call : Addr} {od_law_execute_procedure an_law_execute_procedure : Option Addr} {sl_law_execute_procedure : Array (Option Value)} {oc_law_execute_procedure kV_law_execute_procedure dc_law_execute_procedure pm_law_execute_procedure cd_law_execute_procedure ct_law_execute_procedure : Value} {f_law_execute_procedure : Addr} {od_law_played an_law_played : Option Addr} {sl_law_played : Array (Option Value)} {oc_law_played kV_law_played dc_law_played pm_law_played cd_law_played ct_law_played : Value} {f_law_played : Addr} {od_law_bits an_law_bits : Option Addr} {sl_law_bits : Array (Option Value)} {oc_law_bits kV_law_bits dc_law_bits pm_law_bits cd_law_bits ct_law_bits : Value} {f_law_bits : Addr} {od_law_blocks an_law_blocks : Option Addr} {sl_law_blocks : Array (Option Value)} {oc_law_blocks kV_law_blocks dc_law_blocks pm_law_blocks cd_law_blocks ct_law_blocks : Value} {f_law_blocks : Addr} {od_law_endless an_law_endless : Option Addr} {sl_law_endless : Array (Option Value)} {oc_law_endless kV_law_endless dc_law_endless pm_law_endless cd_law_endless ct_law_endless : Value} {f_law_endless : Addr} {od_law_asked an_law_asked : Option Addr} {sl_law_asked : Array (Option Value)} {oc_law_asked kV_law_asked dc_law_asked pm_law_asked cd_law_asked ct_law_asked : Value} {f_law_asked : Addr} {odlaw anlaw : Option Addr} {sllaw : Array (Option Value)} {oclaw kVlaw dclaw pmlaw cdlaw ctlaw : Value} {flaw : Addr}
    (ais_integer : PySem.W.nsIn K mainGlobals "is_integer" = some (some (.ref fis_integer)))
    (lis_integer : K.lookup fis_integer = some ⟨ocis_integer, odis_integer, .func (PySem.W.fnOf "is_integer" "is_integer" (defArgs sis_integer) (defBody sis_integer) (defScope sis_integer) .none kVis_integer dcis_integer pmis_integer anis_integer cdis_integer ctis_integer), slis_integer⟩)
    (cis_integer : PySem.W.codeIn K cdis_integer "is_integer" = true)
    (kis_integer : PySem.W.keepIn K (.ref fis_integer) = true)
    (ais_between : PySem.W.nsIn K mainGlobals "is_between" = some (some (.ref fis_between)))
    (lis_between : K.lookup fis_between = some ⟨ocis_between, odis_between, .func (PySem.W.fnOf "is_between" "is_between" (defArgs sis_between) (defBody sis_between) (defScope sis_between) .none kVis_between dcis_between pmis_between anis_between cdis_between ctis_between), slis_between⟩)
    (cis_between : PySem.W.codeIn K cdis_between "is_between" = true)
    (kis_between : PySem.W.keepIn K (.ref fis_between) = true)
    (ais_bit : PySem.W.nsIn K mainGlobals "is_bit" = some (some (.ref fis_bit)))
    (lis_bit : K.lookup fis_bit = some ⟨ocis_bit, odis_bit, .func (PySem.W.fnOf "is_bit" "is_bit" (defArgs sis_bit) (defBody sis_bit) (defScope sis_bit) .none kVis_bit dcis_bit pmis_bit anis_bit cdis_bit ctis_bit), slis_bit⟩)
    (cis_bit : PySem.W.codeIn K cdis_bit "is_bit" = true)
    (kis_bit : PySem.W.keepIn K (.ref fis_bit) = true)
    (ais_index : PySem.W.nsIn K mainGlobals "is_index" = some (some (.ref fis_index)))
    (lis_index : K.lookup fis_index = some ⟨ocis_index, odis_index, .func (PySem.W.fnOf "is_index" "is_index" (defArgs sis_index) (defBody sis_index) (defScope sis_index) .none kVis_index dcis_index pmis_index anis_index cdis_index ctis_index), slis_index⟩)
    (cis_index : PySem.W.codeIn K cdis_index "is_index" = true)
    (kis_index : PySem.W.keepIn K (.ref fis_index) = true)
    (ais_cell_list : PySem.W.nsIn K mainGlobals "is_cell_list" = some (some (.ref fis_cell_list)))
    (lis_cell_list : K.lookup fis_cell_list = some ⟨ocis_cell_list, odis_cell_list, .func (PySem.W.fnOf "is_cell_list" "is_cell_list" (defArgs sis_cell_list) (defBody sis_cell_list) (defScope sis_cell_list) .none kVis_cell_list dcis_cell_list pmis_cell_list anis_cell_list cdis_cell_list ctis_cell_list), slis_cell_list⟩)
    (cis_cell_list : PySem.W.codeIn K cdis_cell_list "is_cell_list" = true)
    (kis_cell_list : PySem.W.keepIn K (.ref fis_cell_list) = true)
    (acopied : PySem.W.nsIn K mainGlobals "copied" = some (some (.ref fcopied)))
    (lcopied : K.lookup fcopied = some ⟨occopied, odcopied, .func (PySem.W.fnOf "copied" "copied" (defArgs scopied) (defBody scopied) (defScope scopied) .none kVcopied dccopied pmcopied ancopied cdcopied ctcopied), slcopied⟩)
    (ccopied : PySem.W.codeIn K cdcopied "copied" = true)
    (kcopied : PySem.W.keepIn K (.ref fcopied) = true)
    (ais_row : PySem.W.nsIn K mainGlobals "is_row" = some (some (.ref fis_row)))
    (lis_row : K.lookup fis_row = some ⟨ocis_row, odis_row, .func (PySem.W.fnOf "is_row" "is_row" (defArgs sis_row) (defBody sis_row) (defScope sis_row) .none kVis_row dcis_row pmis_row anis_row cdis_row ctis_row), slis_row⟩)
    (cis_row : PySem.W.codeIn K cdis_row "is_row" = true)
    (kis_row : PySem.W.keepIn K (.ref fis_row) = true)
    (ais_block_pair : PySem.W.nsIn K mainGlobals "is_block_pair" = some (some (.ref fis_block_pair)))
    (lis_block_pair : K.lookup fis_block_pair = some ⟨ocis_block_pair, odis_block_pair, .func (PySem.W.fnOf "is_block_pair" "is_block_pair" (defArgs sis_block_pair) (defBody sis_block_pair) (defScope sis_block_pair) .none kVis_block_pair dcis_block_pair pmis_block_pair anis_block_pair cdis_block_pair ctis_block_pair), slis_block_pair⟩)
    (cis_block_pair : PySem.W.codeIn K cdis_block_pair "is_block_pair" = true)
    (kis_block_pair : PySem.W.keepIn K (.ref fis_block_pair) = true)
    (ais_sized : PySem.W.nsIn K mainGlobals "is_sized" = some (some (.ref fis_sized)))
    (lis_sized : K.lookup fis_sized = some ⟨ocis_sized, odis_sized, .func (PySem.W.fnOf "is_sized" "is_sized" (defArgs sis_sized) (defBody sis_sized) (defScope sis_sized) .none kVis_sized dcis_sized pmis_sized anis_sized cdis_sized ctis_sized), slis_sized⟩)
    (cis_sized : PySem.W.codeIn K cdis_sized "is_sized" = true)
    (kis_sized : PySem.W.keepIn K (.ref fis_sized) = true)
    (ais_statement : PySem.W.nsIn K mainGlobals "is_statement" = some (some (.ref fis_statement)))
    (lis_statement : K.lookup fis_statement = some ⟨ocis_statement, odis_statement, .func (PySem.W.fnOf "is_statement" "is_statement" (defArgs sis_statement) (defBody sis_statement) (defScope sis_statement) .none kVis_statement dcis_statement pmis_statement anis_statement cdis_statement ctis_statement), slis_statement⟩)
    (cis_statement : PySem.W.codeIn K cdis_statement "is_statement" = true)
    (kis_statement : PySem.W.keepIn K (.ref fis_statement) = true)
    (ablocks_of : PySem.W.nsIn K mainGlobals "blocks_of" = some (some (.ref fblocks_of)))
    (lblocks_of : K.lookup fblocks_of = some ⟨ocblocks_of, odblocks_of, .func (PySem.W.fnOf "blocks_of" "blocks_of" (defArgs sblocks_of) (defBody sblocks_of) (defScope sblocks_of) .none kVblocks_of dcblocks_of pmblocks_of anblocks_of cdblocks_of ctblocks_of), slblocks_of⟩)
    (cblocks_of : PySem.W.codeIn K cdblocks_of "blocks_of" = true)
    (kblocks_of : PySem.W.keepIn K (.ref fblocks_of) = true)
    (aplaces : PySem.W.nsIn K mainGlobals "places" = some (some (.ref fplaces)))
    (lplaces : K.lookup fplaces = some ⟨ocplaces, odplaces, .func (PySem.W.fnOf "places" "places" (defArgs splaces) (defBody splaces) (defScope splaces) .none kVplaces dcplaces pmplaces anplaces cdplaces ctplaces), slplaces⟩)
    (cplaces : PySem.W.codeIn K cdplaces "places" = true)
    (kplaces : PySem.W.keepIn K (.ref fplaces) = true)
    (aentries : PySem.W.nsIn K mainGlobals "entries" = some (some (.ref fentries)))
    (lentries : K.lookup fentries = some ⟨ocentries, odentries, .func (PySem.W.fnOf "entries" "entries" (defArgs sentries) (defBody sentries) (defScope sentries) .none kVentries dcentries pmentries anentries cdentries ctentries), slentries⟩)
    (centries : PySem.W.codeIn K cdentries "entries" = true)
    (kentries : PySem.W.keepIn K (.ref fentries) = true)
    (afits : PySem.W.nsIn K mainGlobals "fits" = some (some (.ref ffits)))
    (lfits : K.lookup ffits = some ⟨ocfits, odfits, .func (PySem.W.fnOf "fits" "fits" (defArgs sfits) (defBody sfits) (defScope sfits) .none kVfits dcfits pmfits anfits cdfits ctfits), slfits⟩)
    (cfits : PySem.W.codeIn K cdfits "fits" = true)
    (kfits : PySem.W.keepIn K (.ref ffits) = true)
    (afirst_fault : PySem.W.nsIn K mainGlobals "first_fault" = some (some (.ref ffirst_fault)))
    (lfirst_fault : K.lookup ffirst_fault = some ⟨ocfirst_fault, odfirst_fault, .func (PySem.W.fnOf "first_fault" "first_fault" (defArgs sfirst_fault) (defBody sfirst_fault) (defScope sfirst_fault) .none kVfirst_fault dcfirst_fault pmfirst_fault anfirst_fault cdfirst_fault ctfirst_fault), slfirst_fault⟩)
    (cfirst_fault : PySem.W.codeIn K cdfirst_fault "first_fault" = true)
    (kfirst_fault : PySem.W.keepIn K (.ref ffirst_fault) = true)
    (acheck_bodies : PySem.W.nsIn K mainGlobals "check_bodies" = some (some (.ref fcheck_bodies)))
    (lcheck_bodies : K.lookup fcheck_bodies = some ⟨occheck_bodies, odcheck_bodies, .func (PySem.W.fnOf "check_bodies" "check_bodies" (defArgs scheck_bodies) (defBody scheck_bodies) (defScope scheck_bodies) .none kVcheck_bodies dccheck_bodies pmcheck_bodies ancheck_bodies cdcheck_bodies ctcheck_bodies), slcheck_bodies⟩)
    (ccheck_bodies : PySem.W.codeIn K cdcheck_bodies "check_bodies" = true)
    (kcheck_bodies : PySem.W.keepIn K (.ref fcheck_bodies) = true)
    (astatement_at : PySem.W.nsIn K mainGlobals "statement_at" = some (some (.ref fstatement_at)))
    (lstatement_at : K.lookup fstatement_at = some ⟨ocstatement_at, odstatement_at, .func (PySem.W.fnOf "statement_at" "statement_at" (defArgs sstatement_at) (defBody sstatement_at) (defScope sstatement_at) .none kVstatement_at dcstatement_at pmstatement_at anstatement_at cdstatement_at ctstatement_at), slstatement_at⟩)
    (cstatement_at : PySem.W.codeIn K cdstatement_at "statement_at" = true)
    (kstatement_at : PySem.W.keepIn K (.ref fstatement_at) = true)
    (aBook : PySem.W.nsIn K mainGlobals "Book" = some (some (.ref CBook)))
    (pgBook : PySem.W.plainGet K CBook Str.empty = true)
    (hdBook : PySem.W.hasDictIn K CBook = true)
    (poBook : PySem.W.plainOver K CBook = true)
    (saBook : PySem.W.findIn K (.ref CBook) "__setattr__" = some (some (.builtin "object.__setattr__")))
    (mkBook : PySem.W.makesIn K CBook = true)
    (kcBook : PySem.W.keepIn K (.ref CBook) = true)
    (nBook_cells : PySem.W.findIn K (.ref CBook) "_cells" = some none)
    (nBook_bodies : PySem.W.findIn K (.ref CBook) "_bodies" = some none)
    (qLIST_LIMIT : PySem.W.nsIn K mainGlobals "LIST_LIMIT" = some (some (.int 8 tLIST_LIMIT)))
    (qPROCEDURE_LIMIT : PySem.W.nsIn K mainGlobals "PROCEDURE_LIMIT" = some (some (.int 12 tPROCEDURE_LIMIT)))
    (qLAST_LEVEL : PySem.W.nsIn K mainGlobals "LAST_LEVEL" = some (some (.int 3 tLAST_LEVEL)))
    (qROW_LIMIT : PySem.W.nsIn K mainGlobals "ROW_LIMIT" = some (some (.int 9 tROW_LIMIT)))
    (qMOST_CELLS : PySem.W.nsIn K mainGlobals "MOST_CELLS" = some (some (.int 3 tMOST_CELLS)))
    (qMOST_PROCEDURES : PySem.W.nsIn K mainGlobals "MOST_PROCEDURES" = some (some (.int 3 tMOST_PROCEDURES)))
    (qSIZES : PySem.W.nsIn K mainGlobals "SIZES" = some (some (.ref a_SIZES)))
    (dSIZES : K.lookup a_SIZES = some ⟨.type "dict", none, .dict esSIZES nSIZES, #[]⟩)
    (klSIZES : PySem.W.KeysLit w.params esSIZES.toList)
    (loSIZES : (a_SIZES == sysModules) = false)
    (wSIZES0 : PySem.W.nsIn K a_SIZES "set" = some (some (.int 3 tSIZES0)))
    (wSIZES1 : PySem.W.nsIn K a_SIZES "carry" = some (some (.int 2 tSIZES1)))
    (wSIZES2 : PySem.W.nsIn K a_SIZES "keep" = some (some (.int 3 tSIZES2)))
    (wSIZES3 : PySem.W.nsIn K a_SIZES "either" = some (some (.int 3 tSIZES3)))
    (wSIZES4 : PySem.W.nsIn K a_SIZES "again" = some (some (.int 2 tSIZES4)))
    (wSIZES5 : PySem.W.nsIn K a_SIZES "call" = some (some (.int 4 tSIZES5)))
    (wSIZES6 : PySem.W.nsIn K a_SIZES "end" = some (some (.int 2 tSIZES6)))
    (aBook___init__ : PySem.W.findIn K (.ref CBook) "__init__" = some (some (.ref fBook___init__)))
    (iBook___init__ : PySem.W.isFn K (.ref fBook___init__) = true)
    (lBook___init__ : K.lookup fBook___init__ = some ⟨ocBook___init__, odBook___init__, .func (PySem.W.fnOf "__init__" "Book.__init__" (defArgs sBook___init__) (defBody sBook___init__) (defScope sBook___init__) .none kVBook___init__ dcBook___init__ pmBook___init__ anBook___init__ cdBook___init__ ctBook___init__), slBook___init__⟩)
    (cBook___init__ : PySem.W.codeIn K cdBook___init__ "Book.__init__" = true)
    (kBook___init__ : PySem.W.keepIn K (.ref fBook___init__) = true)
    (aBook_cells : PySem.W.findIn K (.ref CBook) "cells" = some (some (.ref fBook_cells)))
    (iBook_cells : PySem.W.isFn K (.ref fBook_cells) = true)
    (lBook_cells : K.lookup fBook_cells = some ⟨ocBook_cells, odBook_cells, .func (PySem.W.fnOf "cells" "Book.cells" (defArgs sBook_cells) (defBody sBook_cells) (defScope sBook_cells) .none kVBook_cells dcBook_cells pmBook_cells anBook_cells cdBook_cells ctBook_cells), slBook_cells⟩)
    (cBook_cells : PySem.W.codeIn K cdBook_cells "Book.cells" = true)
    (kBook_cells : PySem.W.keepIn K (.ref fBook_cells) = true)
    (aBook_bodies : PySem.W.findIn K (.ref CBook) "bodies" = some (some (.ref fBook_bodies)))
    (iBook_bodies : PySem.W.isFn K (.ref fBook_bodies) = true)
    (lBook_bodies : K.lookup fBook_bodies = some ⟨ocBook_bodies, odBook_bodies, .func (PySem.W.fnOf "bodies" "Book.bodies" (defArgs sBook_bodies) (defBody sBook_bodies) (defScope sBook_bodies) .none kVBook_bodies dcBook_bodies pmBook_bodies anBook_bodies cdBook_bodies ctBook_bodies), slBook_bodies⟩)
    (cBook_bodies : PySem.W.codeIn K cdBook_bodies "Book.bodies" = true)
    (kBook_bodies : PySem.W.keepIn K (.ref fBook_bodies) = true)
    (aBook___len__ : PySem.W.findIn K (.ref CBook) "__len__" = some (some (.ref fBook___len__)))
    (iBook___len__ : PySem.W.isFn K (.ref fBook___len__) = true)
    (lBook___len__ : K.lookup fBook___len__ = some ⟨ocBook___len__, odBook___len__, .func (PySem.W.fnOf "__len__" "Book.__len__" (defArgs sBook___len__) (defBody sBook___len__) (defScope sBook___len__) .none kVBook___len__ dcBook___len__ pmBook___len__ anBook___len__ cdBook___len__ ctBook___len__), slBook___len__⟩)
    (cBook___len__ : PySem.W.codeIn K cdBook___len__ "Book.__len__" = true)
    (kBook___len__ : PySem.W.keepIn K (.ref fBook___len__) = true)
    (aFrame : PySem.W.nsIn K mainGlobals "Frame" = some (some (.ref CFrame)))
    (pgFrame : PySem.W.plainGet K CFrame Str.empty = true)
    (hdFrame : PySem.W.hasDictIn K CFrame = true)
    (poFrame : PySem.W.plainOver K CFrame = true)
    (saFrame : PySem.W.findIn K (.ref CFrame) "__setattr__" = some (some (.builtin "object.__setattr__")))
    (mkFrame : PySem.W.makesIn K CFrame = true)
    (kcFrame : PySem.W.keepIn K (.ref CFrame) = true)
    (nFrameword : PySem.W.findIn K (.ref CFrame) "word" = some none)
    (nFrameblock : PySem.W.findIn K (.ref CFrame) "block" = some none)
    (nFrametold : PySem.W.findIn K (.ref CFrame) "told" = some none)
    (nFrameat : PySem.W.findIn K (.ref CFrame) "at" = some none)
    (aFrame___init__ : PySem.W.findIn K (.ref CFrame) "__init__" = some (some (.ref fFrame___init__)))
    (iFrame___init__ : PySem.W.isFn K (.ref fFrame___init__) = true)
    (lFrame___init__ : K.lookup fFrame___init__ = some ⟨ocFrame___init__, odFrame___init__, .func (PySem.W.fnOf "__init__" "Frame.__init__" (defArgs sFrame___init__) (defBody sFrame___init__) (defScope sFrame___init__) .none kVFrame___init__ dcFrame___init__ pmFrame___init__ anFrame___init__ cdFrame___init__ ctFrame___init__), slFrame___init__⟩)
    (cFrame___init__ : PySem.W.codeIn K cdFrame___init__ "Frame.__init__" = true)
    (kFrame___init__ : PySem.W.keepIn K (.ref fFrame___init__) = true)
    (aExecution : PySem.W.nsIn K mainGlobals "Execution" = some (some (.ref CExecution)))
    (pgExecution : PySem.W.plainGet K CExecution Str.empty = true)
    (hdExecution : PySem.W.hasDictIn K CExecution = true)
    (poExecution : PySem.W.plainOver K CExecution = true)
    (saExecution : PySem.W.findIn K (.ref CExecution) "__setattr__" = some (some (.builtin "object.__setattr__")))
    (mkExecution : PySem.W.makesIn K CExecution = true)
    (kcExecution : PySem.W.keepIn K (.ref CExecution) = true)
    (nExecution_bodies : PySem.W.findIn K (.ref CExecution) "_bodies" = some none)
    (nExecution_last : PySem.W.findIn K (.ref CExecution) "_last" = some none)
    (nExecution_bits : PySem.W.findIn K (.ref CExecution) "_bits" = some none)
    (nExecution_taken : PySem.W.findIn K (.ref CExecution) "_taken" = some none)
    (nExecution_frames : PySem.W.findIn K (.ref CExecution) "_frames" = some none)
    (nExecution_begun : PySem.W.findIn K (.ref CExecution) "_begun" = some none)
    (nExecutionsteps : PySem.W.findIn K (.ref CExecution) "steps" = some none)
    (nExecutionlength : PySem.W.findIn K (.ref CExecution) "length" = some none)
    (nExecutionway : PySem.W.findIn K (.ref CExecution) "way" = some none)
    (aExecution___init__ : PySem.W.findIn K (.ref CExecution) "__init__" = some (some (.ref fExecution___init__)))
    (iExecution___init__ : PySem.W.isFn K (.ref fExecution___init__) = true)
    (lExecution___init__ : K.lookup fExecution___init__ = some ⟨ocExecution___init__, odExecution___init__, .func (PySem.W.fnOf "__init__" "Execution.__init__" (defArgs sExecution___init__) (defBody sExecution___init__) (defScope sExecution___init__) .none kVExecution___init__ dcExecution___init__ pmExecution___init__ anExecution___init__ cdExecution___init__ ctExecution___init__), slExecution___init__⟩)
    (cExecution___init__ : PySem.W.codeIn K cdExecution___init__ "Execution.__init__" = true)
    (kExecution___init__ : PySem.W.keepIn K (.ref fExecution___init__) = true)
    (aExecution__bit : PySem.W.findIn K (.ref CExecution) "_bit" = some (some (.ref fExecution__bit)))
    (iExecution__bit : PySem.W.isFn K (.ref fExecution__bit) = true)
    (lExecution__bit : K.lookup fExecution__bit = some ⟨ocExecution__bit, odExecution__bit, .func (PySem.W.fnOf "_bit" "Execution._bit" (defArgs sExecution__bit) (defBody sExecution__bit) (defScope sExecution__bit) .none kVExecution__bit dcExecution__bit pmExecution__bit anExecution__bit cdExecution__bit ctExecution__bit), slExecution__bit⟩)
    (cExecution__bit : PySem.W.codeIn K cdExecution__bit "Execution._bit" = true)
    (kExecution__bit : PySem.W.keepIn K (.ref fExecution__bit) = true)
    (aExecution__open : PySem.W.findIn K (.ref CExecution) "_open" = some (some (.ref fExecution__open)))
    (iExecution__open : PySem.W.isFn K (.ref fExecution__open) = true)
    (lExecution__open : K.lookup fExecution__open = some ⟨ocExecution__open, odExecution__open, .func (PySem.W.fnOf "_open" "Execution._open" (defArgs sExecution__open) (defBody sExecution__open) (defScope sExecution__open) .none kVExecution__open dcExecution__open pmExecution__open anExecution__open cdExecution__open ctExecution__open), slExecution__open⟩)
    (cExecution__open : PySem.W.codeIn K cdExecution__open "Execution._open" = true)
    (kExecution__open : PySem.W.keepIn K (.ref fExecution__open) = true)
    (aExecution__begin : PySem.W.findIn K (.ref CExecution) "_begin" = some (some (.ref fExecution__begin)))
    (iExecution__begin : PySem.W.isFn K (.ref fExecution__begin) = true)
    (lExecution__begin : K.lookup fExecution__begin = some ⟨ocExecution__begin, odExecution__begin, .func (PySem.W.fnOf "_begin" "Execution._begin" (defArgs sExecution__begin) (defBody sExecution__begin) (defScope sExecution__begin) .none kVExecution__begin dcExecution__begin pmExecution__begin anExecution__begin cdExecution__begin ctExecution__begin), slExecution__begin⟩)
    (cExecution__begin : PySem.W.codeIn K cdExecution__begin "Execution._begin" = true)
    (kExecution__begin : PySem.W.keepIn K (.ref fExecution__begin) = true)
    (aExecution__advance : PySem.W.findIn K (.ref CExecution) "_advance" = some (some (.ref fExecution__advance)))
    (iExecution__advance : PySem.W.isFn K (.ref fExecution__advance) = true)
    (lExecution__advance : K.lookup fExecution__advance = some ⟨ocExecution__advance, odExecution__advance, .func (PySem.W.fnOf "_advance" "Execution._advance" (defArgs sExecution__advance) (defBody sExecution__advance) (defScope sExecution__advance) .none kVExecution__advance dcExecution__advance pmExecution__advance anExecution__advance cdExecution__advance ctExecution__advance), slExecution__advance⟩)
    (cExecution__advance : PySem.W.codeIn K cdExecution__advance "Execution._advance" = true)
    (kExecution__advance : PySem.W.keepIn K (.ref fExecution__advance) = true)
    (aExecution__execute : PySem.W.findIn K (.ref CExecution) "_execute" = some (some (.ref fExecution__execute)))
    (iExecution__execute : PySem.W.isFn K (.ref fExecution__execute) = true)
    (lExecution__execute : K.lookup fExecution__execute = some ⟨ocExecution__execute, odExecution__execute, .func (PySem.W.fnOf "_execute" "Execution._execute" (defArgs sExecution__execute) (defBody sExecution__execute) (defScope sExecution__execute) .none kVExecution__execute dcExecution__execute pmExecution__execute anExecution__execute cdExecution__execute ctExecution__execute), slExecution__execute⟩)
    (cExecution__execute : PySem.W.codeIn K cdExecution__execute "Execution._execute" = true)
    (kExecution__execute : PySem.W.keepIn K (.ref fExecution__execute) = true)
    (aExecution__command : PySem.W.findIn K (.ref CExecution) "_command" = some (some (.ref fExecution__command)))
    (iExecution__command : PySem.W.isFn K (.ref fExecution__command) = true)
    (lExecution__command : K.lookup fExecution__command = some ⟨ocExecution__command, odExecution__command, .func (PySem.W.fnOf "_command" "Execution._command" (defArgs sExecution__command) (defBody sExecution__command) (defScope sExecution__command) .none kVExecution__command dcExecution__command pmExecution__command anExecution__command cdExecution__command ctExecution__command), slExecution__command⟩)
    (cExecution__command : PySem.W.codeIn K cdExecution__command "Execution._command" = true)
    (kExecution__command : PySem.W.keepIn K (.ref fExecution__command) = true)
    (aExecution__leave : PySem.W.findIn K (.ref CExecution) "_leave" = some (some (.ref fExecution__leave)))
    (iExecution__leave : PySem.W.isFn K (.ref fExecution__leave) = true)
    (lExecution__leave : K.lookup fExecution__leave = some ⟨ocExecution__leave, odExecution__leave, .func (PySem.W.fnOf "_leave" "Execution._leave" (defArgs sExecution__leave) (defBody sExecution__leave) (defScope sExecution__leave) .none kVExecution__leave dcExecution__leave pmExecution__leave anExecution__leave cdExecution__leave ctExecution__leave), slExecution__leave⟩)
    (cExecution__leave : PySem.W.codeIn K cdExecution__leave "Execution._leave" = true)
    (kExecution__leave : PySem.W.keepIn K (.ref fExecution__leave) = true)
    (aExecution__close : PySem.W.findIn K (.ref CExecution) "_close" = some (some (.ref fExecution__close)))
    (iExecution__close : PySem.W.isFn K (.ref fExecution__close) = true)
    (lExecution__close : K.lookup fExecution__close = some ⟨ocExecution__close, odExecution__close, .func (PySem.W.fnOf "_close" "Execution._close" (defArgs sExecution__close) (defBody sExecution__close) (defScope sExecution__close) .none kVExecution__close dcExecution__close pmExecution__close anExecution__close cdExecution__close ctExecution__close), slExecution__close⟩)
    (cExecution__close : PySem.W.codeIn K cdExecution__close "Execution._close" = true)
    (kExecution__close : PySem.W.keepIn K (.ref fExecution__close) = true)
    (aExecution__end : PySem.W.findIn K (.ref CExecution) "_end" = some (some (.ref fExecution__end)))
    (iExecution__end : PySem.W.isFn K (.ref fExecution__end) = true)
    (lExecution__end : K.lookup fExecution__end = some ⟨ocExecution__end, odExecution__end, .func (PySem.W.fnOf "_end" "Execution._end" (defArgs sExecution__end) (defBody sExecution__end) (defScope sExecution__end) .none kVExecution__end dcExecution__end pmExecution__end anExecution__end cdExecution__end ctExecution__end), slExecution__end⟩)
    (cExecution__end : PySem.W.codeIn K cdExecution__end "Execution._end" = true)
    (kExecution__end : PySem.W.keepIn K (.ref fExecution__end) = true)
    (aNoRun : PySem.W.nsIn K mainGlobals "NoRun" = some (some (.ref CNoRun)))
    (xNoRun : K.lookup CNoRun = some (excClassObj nmNoRun qnNoRun CNoRun dNNoRun bsNoRun bmNoRun true snNoRun suNoRun abNoRun coNoRun ddNoRun kaNoRun kbNoRun kcNoRun kdNoRun keNoRun "ValueError.__new__"))
    (rNoRun : PySem.HandSPX.refsVE bmNoRun = true)
    (saNoRun : PySem.W.findIn K (.ref CNoRun) "__setattr__" = some (some (.builtin "object.__setattr__")))
    (kNoRun : PySem.W.keepIn K (.ref CNoRun) = true)
    (bNoRun : PySem.W.subIn K (.ref CNoRun) (.type "BaseException") = some true)
    (tNoRun : PySem.W.typeIn K (.ref CNoRun) = some (.type "type"))
    (hdNoRun : PySem.W.hasDictIn K CNoRun = true)
    (xfNoRun : L2.xfB K CNoRun = true)
    (nNoRun_index : PySem.W.findIn K (.ref CNoRun) "index" = some none)
    (aNoRun___init__ : PySem.W.findIn K (.ref CNoRun) "__init__" = some (some (.ref fNoRun___init__)))
    (iNoRun___init__ : PySem.W.isFn K (.ref fNoRun___init__) = true)
    (lNoRun___init__ : K.lookup fNoRun___init__ = some ⟨ocNoRun___init__, odNoRun___init__, .func (PySem.W.fnOf "__init__" "NoRun.__init__" (defArgs sNoRun___init__) (defBody sNoRun___init__) (defScope sNoRun___init__) .none kVNoRun___init__ dcNoRun___init__ pmNoRun___init__ anNoRun___init__ cdNoRun___init__ ctNoRun___init__), slNoRun___init__⟩)
    (cNoRun___init__ : PySem.W.codeIn K cdNoRun___init__ "NoRun.__init__" = true)
    (kNoRun___init__ : PySem.W.keepIn K (.ref fNoRun___init__) = true)
    (tiNoRun : PySem.W.typeIn K (.ref fNoRun___init__) = some (.type "function"))
    (aNoProcedure : PySem.W.nsIn K mainGlobals "NoProcedure" = some (some (.ref CNoProcedure)))
    (xNoProcedure : PySem.W.excIn K CNoProcedure [.type "ValueError", .type "Exception", .type "BaseException", .type "object"] "ValueError.__new__" = true)
    (kNoProcedure : PySem.W.keepIn K (.ref CNoProcedure) = true)
    (bNoProcedure : PySem.W.subIn K (.ref CNoProcedure) (.type "BaseException") = some true)
    (tNoProcedure : PySem.W.typeIn K (.ref CNoProcedure) = some (.type "type"))
    (hdNoProcedure : PySem.W.hasDictIn K CNoProcedure = true)
    (aNoBoard : PySem.W.nsIn K mainGlobals "NoBoard" = some (some (.ref CNoBoard)))
    (xNoBoard : PySem.W.excIn K CNoBoard [.type "ValueError", .type "Exception", .type "BaseException", .type "object"] "ValueError.__new__" = true)
    (kNoBoard : PySem.W.keepIn K (.ref CNoBoard) = true)
    (bNoBoard : PySem.W.subIn K (.ref CNoBoard) (.type "BaseException") = some true)
    (tNoBoard : PySem.W.typeIn K (.ref CNoBoard) = some (.type "type"))
    (hdNoBoard : PySem.W.hasDictIn K CNoBoard = true)
    (aNoNumber : PySem.W.nsIn K mainGlobals "NoNumber" = some (some (.ref CNoNumber)))
    (xNoNumber : PySem.W.excIn K CNoNumber [.type "ValueError", .type "Exception", .type "BaseException", .type "object"] "ValueError.__new__" = true)
    (kNoNumber : PySem.W.keepIn K (.ref CNoNumber) = true)
    (bNoNumber : PySem.W.subIn K (.ref CNoNumber) (.type "BaseException") = some true)
    (tNoNumber : PySem.W.typeIn K (.ref CNoNumber) = some (.type "type"))
    (hdNoNumber : PySem.W.hasDictIn K CNoNumber = true)
    (aBoardError : PySem.W.nsIn K mainGlobals "BoardError" = some (some (.ref CBoardError)))
    (sNoProcedureNoProcedure : PySem.W.subIn K (.ref CNoProcedure) (.ref CNoProcedure) = some true)
    (sNoRunNoProcedure : PySem.W.subIn K (.ref CNoRun) (.ref CNoProcedure) = some false)
    (sNoRunNoRun : PySem.W.subIn K (.ref CNoRun) (.ref CNoRun) = some true)
    (sNoBoardNoProcedure : PySem.W.subIn K (.ref CNoBoard) (.ref CNoProcedure) = some false)
    (sNoBoardNoRun : PySem.W.subIn K (.ref CNoBoard) (.ref CNoRun) = some false)
    (sNoBoardNoBoard : PySem.W.subIn K (.ref CNoBoard) (.ref CNoBoard) = some true)
    (sNoNumberNoProcedure : PySem.W.subIn K (.ref CNoNumber) (.ref CNoProcedure) = some false)
    (sNoNumberNoRun : PySem.W.subIn K (.ref CNoNumber) (.ref CNoRun) = some false)
    (sNoNumberNoBoard : PySem.W.subIn K (.ref CNoNumber) (.ref CNoBoard) = some false)
    (sNoNumberNoNumber : PySem.W.subIn K (.ref CNoNumber) (.ref CNoNumber) = some true)
    (ais_board : PySem.W.nsIn K mainGlobals "is_board" = some (some (.ref fis_board)))
    (lis_board : K.lookup fis_board = some ⟨ocis_board, odis_board, .func (PySem.W.fnOf "is_board" "is_board" (defArgs sis_board) (defBody sis_board) (defScope sis_board) .none kVis_board dcis_board pmis_board anis_board cdis_board ctis_board), slis_board⟩)
    (cis_board : PySem.W.codeIn K cdis_board "is_board" = true)
    (kis_board : PySem.W.keepIn K (.ref fis_board) = true)
    (acheck_bits : PySem.W.nsIn K mainGlobals "check_bits" = some (some (.ref fcheck_bits)))
    (lcheck_bits : K.lookup fcheck_bits = some ⟨occheck_bits, odcheck_bits, .func (PySem.W.fnOf "check_bits" "check_bits" (defArgs scheck_bits) (defBody scheck_bits) (defScope scheck_bits) .none kVcheck_bits dccheck_bits pmcheck_bits ancheck_bits cdcheck_bits ctcheck_bits), slcheck_bits⟩)
    (ccheck_bits : PySem.W.codeIn K cdcheck_bits "check_bits" = true)
    (kcheck_bits : PySem.W.keepIn K (.ref fcheck_bits) = true)
    (aexecuted : PySem.W.nsIn K mainGlobals "executed" = some (some (.ref fexecuted)))
    (lexecuted : K.lookup fexecuted = some ⟨ocexecuted, odexecuted, .func (PySem.W.fnOf "executed" "executed" (defArgs sexecuted) (defBody sexecuted) (defScope sexecuted) .none kVexecuted dcexecuted pmexecuted anexecuted cdexecuted ctexecuted), slexecuted⟩)
    (cexecuted : PySem.W.codeIn K cdexecuted "executed" = true)
    (kexecuted : PySem.W.keepIn K (.ref fexecuted) = true)
    (abehind : PySem.W.nsIn K mainGlobals "behind" = some (some (.ref fbehind)))
    (lbehind : K.lookup fbehind = some ⟨ocbehind, odbehind, .func (PySem.W.fnOf "behind" "behind" (defArgs sbehind) (defBody sbehind) (defScope sbehind) .none kVbehind dcbehind pmbehind anbehind cdbehind ctbehind), slbehind⟩)
    (cbehind : PySem.W.codeIn K cdbehind "behind" = true)
    (kbehind : PySem.W.keepIn K (.ref fbehind) = true)
    (arun_of : PySem.W.nsIn K mainGlobals "run_of" = some (some (.ref frun_of)))
    (lrun_of : K.lookup frun_of = some ⟨ocrun_of, odrun_of, .func (PySem.W.fnOf "run_of" "run_of" (defArgs srun_of) (defBody srun_of) (defScope srun_of) .none kVrun_of dcrun_of pmrun_of anrun_of cdrun_of ctrun_of), slrun_of⟩)
    (crun_of : PySem.W.codeIn K cdrun_of "run_of" = true)
    (krun_of : PySem.W.keepIn K (.ref frun_of) = true)
    (agiven_board : PySem.W.nsIn K mainGlobals "given_board" = some (some (.ref fgiven_board)))
    (lgiven_board : K.lookup fgiven_board = some ⟨ocgiven_board, odgiven_board, .func (PySem.W.fnOf "given_board" "given_board" (defArgs sgiven_board) (defBody sgiven_board) (defScope sgiven_board) .none kVgiven_board dcgiven_board pmgiven_board angiven_board cdgiven_board ctgiven_board), slgiven_board⟩)
    (cgiven_board : PySem.W.codeIn K cdgiven_board "given_board" = true)
    (kgiven_board : PySem.W.keepIn K (.ref fgiven_board) = true)
    (aplayed : PySem.W.nsIn K mainGlobals "played" = some (some (.ref fplayed)))
    (lplayed : K.lookup fplayed = some ⟨ocplayed, odplayed, .func (PySem.W.fnOf "played" "played" (defArgs splayed) (defBody splayed) (defScope splayed) .none (.ref kDplayed) dcplayed pmplayed anplayed cdplayed ctplayed), slplayed⟩)
    (cplayed : PySem.W.codeIn K cdplayed "played" = true)
    (kplayed : PySem.W.keepIn K (.ref fplayed) = true)
    (kwplayed_board : PySem.W.nsIn K kDplayed "board" = some (some (.none)))
    (kwplayed_n : PySem.W.nsIn K kDplayed "n" = some (some (.int 0 kTplayed_n)))
    (a_law_pool : PySem.W.nsIn K mainGlobals "_law_pool" = some (some (.ref f_law_pool)))
    (l_law_pool : K.lookup f_law_pool = some ⟨oc_law_pool, od_law_pool, .func (PySem.W.fnOf "_law_pool" "_law_pool" (defArgs s_law_pool) (defBody s_law_pool) (defScope s_law_pool) .none kV_law_pool dc_law_pool pm_law_pool an_law_pool cd_law_pool ct_law_pool), sl_law_pool⟩)
    (c_law_pool : PySem.W.codeIn K cd_law_pool "_law_pool" = true)
    (k_law_pool : PySem.W.keepIn K (.ref f_law_pool) = true)
    (a_law_draw : PySem.W.nsIn K mainGlobals "_law_draw" = some (some (.ref f_law_draw)))
    (l_law_draw : K.lookup f_law_draw = some ⟨oc_law_draw, od_law_draw, .func (PySem.W.fnOf "_law_draw" "_law_draw" (defArgs s_law_draw) (defBody s_law_draw) (defScope s_law_draw) .none kV_law_draw dc_law_draw pm_law_draw an_law_draw cd_law_draw ct_law_draw), sl_law_draw⟩)
    (c_law_draw : PySem.W.codeIn K cd_law_draw "_law_draw" = true)
    (k_law_draw : PySem.W.keepIn K (.ref f_law_draw) = true)
    (a_law_number : PySem.W.nsIn K mainGlobals "_law_number" = some (some (.ref f_law_number)))
    (l_law_number : K.lookup f_law_number = some ⟨oc_law_number, od_law_number, .func (PySem.W.fnOf "_law_number" "_law_number" (defArgs s_law_number) (defBody s_law_number) (defScope s_law_number) .none kV_law_number dc_law_number pm_law_number an_law_number cd_law_number ct_law_number), sl_law_number⟩)
    (c_law_number : PySem.W.codeIn K cd_law_number "_law_number" = true)
    (k_law_number : PySem.W.keepIn K (.ref f_law_number) = true)
    (a_law_board : PySem.W.nsIn K mainGlobals "_law_board" = some (some (.ref f_law_board)))
    (l_law_board : K.lookup f_law_board = some ⟨oc_law_board, od_law_board, .func (PySem.W.fnOf "_law_board" "_law_board" (defArgs s_law_board) (defBody s_law_board) (defScope s_law_board) .none kV_law_board dc_law_board pm_law_board an_law_board cd_law_board ct_law_board), sl_law_board⟩)
    (c_law_board : PySem.W.codeIn K cd_law_board "_law_board" = true)
    (k_law_board : PySem.W.keepIn K (.ref f_law_board) = true)
    (a_law_row : PySem.W.nsIn K mainGlobals "_law_row" = some (some (.ref f_law_row)))
    (l_law_row : K.lookup f_law_row = some ⟨oc_law_row, od_law_row, .func (PySem.W.fnOf "_law_row" "_law_row" (defArgs s_law_row) (defBody s_law_row) (defScope s_law_row) .none kV_law_row dc_law_row pm_law_row an_law_row cd_law_row ct_law_row), sl_law_row⟩)
    (c_law_row : PySem.W.codeIn K cd_law_row "_law_row" = true)
    (k_law_row : PySem.W.keepIn K (.ref f_law_row) = true)
    (a_law_command : PySem.W.nsIn K mainGlobals "_law_command" = some (some (.ref f_law_command)))
    (l_law_command : K.lookup f_law_command = some ⟨oc_law_command, od_law_command, .func (PySem.W.fnOf "_law_command" "_law_command" (defArgs s_law_command) (defBody s_law_command) (defScope s_law_command) .none kV_law_command dc_law_command pm_law_command an_law_command cd_law_command ct_law_command), sl_law_command⟩)
    (c_law_command : PySem.W.codeIn K cd_law_command "_law_command" = true)
    (k_law_command : PySem.W.keepIn K (.ref f_law_command) = true)
    (a_law_some_cells : PySem.W.nsIn K mainGlobals "_law_some_cells" = some (some (.ref f_law_some_cells)))
    (l_law_some_cells : K.lookup f_law_some_cells = some ⟨oc_law_some_cells, od_law_some_cells, .func (PySem.W.fnOf "_law_some_cells" "_law_some_cells" (defArgs s_law_some_cells) (defBody s_law_some_cells) (defScope s_law_some_cells) .none kV_law_some_cells dc_law_some_cells pm_law_some_cells an_law_some_cells cd_law_some_cells ct_law_some_cells), sl_law_some_cells⟩)
    (c_law_some_cells : PySem.W.codeIn K cd_law_some_cells "_law_some_cells" = true)
    (k_law_some_cells : PySem.W.keepIn K (.ref f_law_some_cells) = true)
    (a_law_block : PySem.W.nsIn K mainGlobals "_law_block" = some (some (.ref f_law_block)))
    (l_law_block : K.lookup f_law_block = some ⟨oc_law_block, od_law_block, .func (PySem.W.fnOf "_law_block" "_law_block" (defArgs s_law_block) (defBody s_law_block) (defScope s_law_block) .none kV_law_block dc_law_block pm_law_block an_law_block cd_law_block ct_law_block), sl_law_block⟩)
    (c_law_block : PySem.W.codeIn K cd_law_block "_law_block" = true)
    (k_law_block : PySem.W.keepIn K (.ref f_law_block) = true)
    (a_law_statement : PySem.W.nsIn K mainGlobals "_law_statement" = some (some (.ref f_law_statement)))
    (l_law_statement : K.lookup f_law_statement = some ⟨oc_law_statement, od_law_statement, .func (PySem.W.fnOf "_law_statement" "_law_statement" (defArgs s_law_statement) (defBody s_law_statement) (defScope s_law_statement) .none kV_law_statement dc_law_statement pm_law_statement an_law_statement cd_law_statement ct_law_statement), sl_law_statement⟩)
    (c_law_statement : PySem.W.codeIn K cd_law_statement "_law_statement" = true)
    (k_law_statement : PySem.W.keepIn K (.ref f_law_statement) = true)
    (a_law_body : PySem.W.nsIn K mainGlobals "_law_body" = some (some (.ref f_law_body)))
    (l_law_body : K.lookup f_law_body = some ⟨oc_law_body, od_law_body, .func (PySem.W.fnOf "_law_body" "_law_body" (defArgs s_law_body) (defBody s_law_body) (defScope s_law_body) .none kV_law_body dc_law_body pm_law_body an_law_body cd_law_body ct_law_body), sl_law_body⟩)
    (c_law_body : PySem.W.codeIn K cd_law_body "_law_body" = true)
    (k_law_body : PySem.W.keepIn K (.ref f_law_body) = true)
    (a_law_same : PySem.W.nsIn K mainGlobals "_law_same" = some (some (.ref f_law_same)))
    (l_law_same : K.lookup f_law_same = some ⟨oc_law_same, od_law_same, .func (PySem.W.fnOf "_law_same" "_law_same" (defArgs s_law_same) (defBody s_law_same) (defScope s_law_same) .none kV_law_same dc_law_same pm_law_same an_law_same cd_law_same ct_law_same), sl_law_same⟩)
    (c_law_same : PySem.W.codeIn K cd_law_same "_law_same" = true)
    (k_law_same : PySem.W.keepIn K (.ref f_law_same) = true)
    (a_law_bit : PySem.W.nsIn K mainGlobals "_law_bit" = some (some (.ref f_law_bit)))
    (l_law_bit : K.lookup f_law_bit = some ⟨oc_law_bit, od_law_bit, .func (PySem.W.fnOf "_law_bit" "_law_bit" (defArgs s_law_bit) (defBody s_law_bit) (defScope s_law_bit) .none kV_law_bit dc_law_bit pm_law_bit an_law_bit cd_law_bit ct_law_bit), sl_law_bit⟩)
    (c_law_bit : PySem.W.codeIn K cd_law_bit "_law_bit" = true)
    (k_law_bit : PySem.W.keepIn K (.ref f_law_bit) = true)
    (a_law_value : PySem.W.nsIn K mainGlobals "_law_value" = some (some (.ref f_law_value)))
    (l_law_value : K.lookup f_law_value = some ⟨oc_law_value, od_law_value, .func (PySem.W.fnOf "_law_value" "_law_value" (defArgs s_law_value) (defBody s_law_value) (defScope s_law_value) .none kV_law_value dc_law_value pm_law_value an_law_value cd_law_value ct_law_value), sl_law_value⟩)
    (c_law_value : PySem.W.codeIn K cd_law_value "_law_value" = true)
    (k_law_value : PySem.W.keepIn K (.ref f_law_value) = true)
    (a_law_execute : PySem.W.nsIn K mainGlobals "_law_execute" = some (some (.ref f_law_execute)))
    (l_law_execute : K.lookup f_law_execute = some ⟨oc_law_execute, od_law_execute, .func (PySem.W.fnOf "_law_execute" "_law_execute" (defArgs s_law_execute) (defBody s_law_execute) (defScope s_law_execute) .none kV_law_execute dc_law_execute pm_law_execute an_law_execute cd_law_execute ct_law_execute), sl_law_execute⟩)
    (c_law_execute : PySem.W.codeIn K cd_law_execute "_law_execute" = true)
    (k_law_execute : PySem.W.keepIn K (.ref f_law_execute) = true)
    (a_law_execute_one : PySem.W.nsIn K mainGlobals "_law_execute_one" = some (some (.ref f_law_execute_one)))
    (l_law_execute_one : K.lookup f_law_execute_one = some ⟨oc_law_execute_one, od_law_execute_one, .func (PySem.W.fnOf "_law_execute_one" "_law_execute_one" (defArgs s_law_execute_one) (defBody s_law_execute_one) (defScope s_law_execute_one) .none kV_law_execute_one dc_law_execute_one pm_law_execute_one an_law_execute_one cd_law_execute_one ct_law_execute_one), sl_law_execute_one⟩)
    (c_law_execute_one : PySem.W.codeIn K cd_law_execute_one "_law_execute_one" = true)
    (k_law_execute_one : PySem.W.keepIn K (.ref f_law_execute_one) = true)
    (a_law_execute_keep : PySem.W.nsIn K mainGlobals "_law_execute_keep" = some (some (.ref f_law_execute_keep)))
    (l_law_execute_keep : K.lookup f_law_execute_keep = some ⟨oc_law_execute_keep, od_law_execute_keep, .func (PySem.W.fnOf "_law_execute_keep" "_law_execute_keep" (defArgs s_law_execute_keep) (defBody s_law_execute_keep) (defScope s_law_execute_keep) .none kV_law_execute_keep dc_law_execute_keep pm_law_execute_keep an_law_execute_keep cd_law_execute_keep ct_law_execute_keep), sl_law_execute_keep⟩)
    (c_law_execute_keep : PySem.W.codeIn K cd_law_execute_keep "_law_execute_keep" = true)
    (k_law_execute_keep : PySem.W.keepIn K (.ref f_law_execute_keep) = true)
    (a_law_execute_again : PySem.W.nsIn K mainGlobals "_law_execute_again" = some (some (.ref f_law_execute_again)))
    (l_law_execute_again : K.lookup f_law_execute_again = some ⟨oc_law_execute_again, od_law_execute_again, .func (PySem.W.fnOf "_law_execute_again" "_law_execute_again" (defArgs s_law_execute_again) (defBody s_law_execute_again) (defScope s_law_execute_again) .none kV_law_execute_again dc_law_execute_again pm_law_execute_again an_law_execute_again cd_law_execute_again ct_law_execute_again), sl_law_execute_again⟩)
    (c_law_execute_again : PySem.W.codeIn K cd_law_execute_again "_law_execute_again" = true)
    (k_law_execute_again : PySem.W.keepIn K (.ref f_law_execute_again) = true)
    (a_law_execute_call : PySem.W.nsIn K mainGlobals "_law_execute_call" = some (some (.ref f_law_execute_call)))
    (l_law_execute_call : K.lookup f_law_execute_call = some ⟨oc_law_execute_call, od_law_execute_call, .func (PySem.W.fnOf "_law_execute_call" "_law_execute_call" (defArgs s_law_execute_call) (defBody s_law_execute_call) (defScope s_law_execute_call) .none kV_law_execute_call dc_law_execute_call pm_law_execute_call an_law_execute_call cd_law_execute_call ct_law_execute_call), sl_law_execute_call⟩)
    (c_law_execute_call : PySem.W.codeIn K cd_law_execute_call "_law_execute_call" = true)
    (k_law_execute_call : PySem.W.keepIn K (.ref f_law_execute_call) = true)
    (a_law_execute_procedure : PySem.W.nsIn K mainGlobals "_law_execute_procedure" = some (some (.ref f_law_execute_procedure)))
    (l_law_execute_procedure : K.lookup f_law_execute_procedure = some ⟨oc_law_execute_procedure, od_law_execute_procedure, .func (PySem.W.fnOf "_law_execute_procedure" "_law_execute_procedure" (defArgs s_law_execute_procedure) (defBody s_law_execute_procedure) (defScope s_law_execute_procedure) .none kV_law_execute_procedure dc_law_execute_procedure pm_law_execute_procedure an_law_execute_procedure cd_law_execute_procedure ct_law_execute_procedure), sl_law_execute_procedure⟩)
    (c_law_execute_procedure : PySem.W.codeIn K cd_law_execute_procedure "_law_execute_procedure" = true)
    (k_law_execute_procedure : PySem.W.keepIn K (.ref f_law_execute_procedure) = true)
    (a_law_played : PySem.W.nsIn K mainGlobals "_law_played" = some (some (.ref f_law_played)))
    (l_law_played : K.lookup f_law_played = some ⟨oc_law_played, od_law_played, .func (PySem.W.fnOf "_law_played" "_law_played" (defArgs s_law_played) (defBody s_law_played) (defScope s_law_played) .none kV_law_played dc_law_played pm_law_played an_law_played cd_law_played ct_law_played), sl_law_played⟩)
    (c_law_played : PySem.W.codeIn K cd_law_played "_law_played" = true)
    (k_law_played : PySem.W.keepIn K (.ref f_law_played) = true)
    (a_law_bits : PySem.W.nsIn K mainGlobals "_law_bits" = some (some (.ref f_law_bits)))
    (l_law_bits : K.lookup f_law_bits = some ⟨oc_law_bits, od_law_bits, .func (PySem.W.fnOf "_law_bits" "_law_bits" (defArgs s_law_bits) (defBody s_law_bits) (defScope s_law_bits) .none kV_law_bits dc_law_bits pm_law_bits an_law_bits cd_law_bits ct_law_bits), sl_law_bits⟩)
    (c_law_bits : PySem.W.codeIn K cd_law_bits "_law_bits" = true)
    (k_law_bits : PySem.W.keepIn K (.ref f_law_bits) = true)
    (a_law_blocks : PySem.W.nsIn K mainGlobals "_law_blocks" = some (some (.ref f_law_blocks)))
    (l_law_blocks : K.lookup f_law_blocks = some ⟨oc_law_blocks, od_law_blocks, .func (PySem.W.fnOf "_law_blocks" "_law_blocks" (defArgs s_law_blocks) (defBody s_law_blocks) (defScope s_law_blocks) .none kV_law_blocks dc_law_blocks pm_law_blocks an_law_blocks cd_law_blocks ct_law_blocks), sl_law_blocks⟩)
    (c_law_blocks : PySem.W.codeIn K cd_law_blocks "_law_blocks" = true)
    (k_law_blocks : PySem.W.keepIn K (.ref f_law_blocks) = true)
    (a_law_endless : PySem.W.nsIn K mainGlobals "_law_endless" = some (some (.ref f_law_endless)))
    (l_law_endless : K.lookup f_law_endless = some ⟨oc_law_endless, od_law_endless, .func (PySem.W.fnOf "_law_endless" "_law_endless" (defArgs s_law_endless) (defBody s_law_endless) (defScope s_law_endless) .none kV_law_endless dc_law_endless pm_law_endless an_law_endless cd_law_endless ct_law_endless), sl_law_endless⟩)
    (c_law_endless : PySem.W.codeIn K cd_law_endless "_law_endless" = true)
    (k_law_endless : PySem.W.keepIn K (.ref f_law_endless) = true)
    (a_law_asked : PySem.W.nsIn K mainGlobals "_law_asked" = some (some (.ref f_law_asked)))
    (l_law_asked : K.lookup f_law_asked = some ⟨oc_law_asked, od_law_asked, .func (PySem.W.fnOf "_law_asked" "_law_asked" (defArgs s_law_asked) (defBody s_law_asked) (defScope s_law_asked) .none kV_law_asked dc_law_asked pm_law_asked an_law_asked cd_law_asked ct_law_asked), sl_law_asked⟩)
    (c_law_asked : PySem.W.codeIn K cd_law_asked "_law_asked" = true)
    (k_law_asked : PySem.W.keepIn K (.ref f_law_asked) = true)
    (alaw : PySem.W.nsIn K mainGlobals "law" = some (some (.ref flaw)))
    (llaw : K.lookup flaw = some ⟨oclaw, odlaw, .func (PySem.W.fnOf "law" "law" (defArgs slaw) (defBody slaw) (defScope slaw) .none kVlaw dclaw pmlaw anlaw cdlaw ctlaw), sllaw⟩)
    (claw : PySem.W.codeIn K cdlaw "law" = true)
    (klaw : PySem.W.keepIn K (.ref flaw) = true)
    (y_int : PySem.W.nsIn K mainGlobals "int" = some none)
    (y_len : PySem.W.nsIn K mainGlobals "len" = some none)
    (y_list : PySem.W.nsIn K mainGlobals "list" = some none)
    (y_tuple : PySem.W.nsIn K mainGlobals "tuple" = some none)
    (y_range : PySem.W.nsIn K mainGlobals "range" = some none)
    (y_isinstance : PySem.W.nsIn K mainGlobals "isinstance" = some none)
    (y_bool : PySem.W.nsIn K mainGlobals "bool" = some none)
    (y_str : PySem.W.nsIn K mainGlobals "str" = some none)
    (y_dict : PySem.W.nsIn K mainGlobals "dict" = some none)
    (y_all : PySem.W.nsIn K mainGlobals "all" = some none)
    (y_zip : PySem.W.nsIn K mainGlobals "zip" = some none)
    (y_enumerate : PySem.W.nsIn K mainGlobals "enumerate" = some none)
    (y_reversed : PySem.W.nsIn K mainGlobals "reversed" = some none)
    (y_sum : PySem.W.nsIn K mainGlobals "sum" = some none) :
    ∃ fd : FuncData, (∀ (s : Shared) (v : Value), BindsTo s fd ⟨[v], []⟩ [("script", v)]) ∧ ∀ base : Heap, K.In base → base.Ns mainGlobals mg → FnOk l.prog w K mg base CX0 228 fa fd ["script"] (spLaw K) := by
  have e := hfa.symm.trans (PySem.W.mg_of X G alaw)
  cases e
  have Fis_integer := fun_mk (st := sis_integer) lis_integer cis_integer kis_integer
  have bis_integer := Fis_integer.binds (ps := ["value"]) fun _ _ _ _ _ _ us hl => match us, hl with | [_], _ => rfl
  have gis_integer := PySem.W.mg_of X G ais_integer
  have Fis_between := fun_mk (st := sis_between) lis_between cis_between kis_between
  have bis_between := Fis_between.binds (ps := ["value", "low", "high"]) fun _ _ _ _ _ _ us hl => match us, hl with | [_, _, _], _ => rfl
  have gis_between := PySem.W.mg_of X G ais_between
  have Fis_bit := fun_mk (st := sis_bit) lis_bit cis_bit kis_bit
  have bis_bit := Fis_bit.binds (ps := ["value"]) fun _ _ _ _ _ _ us hl => match us, hl with | [_], _ => rfl
  have gis_bit := PySem.W.mg_of X G ais_bit
  have Fis_index := fun_mk (st := sis_index) lis_index cis_index kis_index
  have bis_index := Fis_index.binds (ps := ["value", "many"]) fun _ _ _ _ _ _ us hl => match us, hl with | [_, _], _ => rfl
  have gis_index := PySem.W.mg_of X G ais_index
  have Fis_cell_list := fun_mk (st := sis_cell_list) lis_cell_list cis_cell_list kis_cell_list
  have bis_cell_list := Fis_cell_list.binds (ps := ["value", "cells"]) fun _ _ _ _ _ _ us hl => match us, hl with | [_, _], _ => rfl
  have gis_cell_list := PySem.W.mg_of X G ais_cell_list
  have Fcopied := fun_mk (st := scopied) lcopied ccopied kcopied
  have bcopied := Fcopied.binds (ps := ["value"]) fun _ _ _ _ _ _ us hl => match us, hl with | [_], _ => rfl
  have gcopied := PySem.W.mg_of X G acopied
  have Fis_row := fun_mk (st := sis_row) lis_row cis_row kis_row
  have bis_row := Fis_row.binds (ps := ["value", "cells"]) fun _ _ _ _ _ _ us hl => match us, hl with | [_, _], _ => rfl
  have gis_row := PySem.W.mg_of X G ais_row
  have Fis_block_pair := fun_mk (st := sis_block_pair) lis_block_pair cis_block_pair kis_block_pair
  have bis_block_pair := Fis_block_pair.binds (ps := ["value"]) fun _ _ _ _ _ _ us hl => match us, hl with | [_], _ => rfl
  have gis_block_pair := PySem.W.mg_of X G ais_block_pair
  have Fis_sized := fun_mk (st := sis_sized) lis_sized cis_sized kis_sized
  have bis_sized := Fis_sized.binds (ps := ["value"]) fun _ _ _ _ _ _ us hl => match us, hl with | [_], _ => rfl
  have gis_sized := PySem.W.mg_of X G ais_sized
  have Fis_statement := fun_mk (st := sis_statement) lis_statement cis_statement kis_statement
  have bis_statement := Fis_statement.binds (ps := ["value", "cells", "procedures"]) fun _ _ _ _ _ _ us hl => match us, hl with | [_, _, _], _ => rfl
  have gis_statement := PySem.W.mg_of X G ais_statement
  have Fblocks_of := fun_mk (st := sblocks_of) lblocks_of cblocks_of kblocks_of
  have bblocks_of := Fblocks_of.binds (ps := ["statement"]) fun _ _ _ _ _ _ us hl => match us, hl with | [_], _ => rfl
  have gblocks_of := PySem.W.mg_of X G ablocks_of
  have Fplaces := fun_mk (st := splaces) lplaces cplaces kplaces
  have bplaces := Fplaces.binds (ps := ["body"]) fun _ _ _ _ _ _ us hl => match us, hl with | [_], _ => rfl
  have gplaces := PySem.W.mg_of X G aplaces
  have Fentries := fun_mk (st := sentries) lentries centries kentries
  have bentries := Fentries.binds (ps := ["block", "path"]) fun _ _ _ _ _ _ us hl => match us, hl with | [_, _], _ => rfl
  have gentries := PySem.W.mg_of X G aentries
  have Ffits := fun_mk (st := sfits) lfits cfits kfits
  have bfits := Ffits.binds (ps := ["value", "path", "cells", "procedures"]) fun _ _ _ _ _ _ us hl => match us, hl with | [_, _, _, _], _ => rfl
  have gfits := PySem.W.mg_of X G afits
  have Ffirst_fault := fun_mk (st := sfirst_fault) lfirst_fault cfirst_fault kfirst_fault
  have bfirst_fault := Ffirst_fault.binds (ps := ["body", "cells", "procedures"]) fun _ _ _ _ _ _ us hl => match us, hl with | [_, _, _], _ => rfl
  have gfirst_fault := PySem.W.mg_of X G afirst_fault
  have Fcheck_bodies := fun_mk (st := scheck_bodies) lcheck_bodies ccheck_bodies kcheck_bodies
  have bcheck_bodies := Fcheck_bodies.binds (ps := ["cells", "bodies"]) fun _ _ _ _ _ _ us hl => match us, hl with | [_, _], _ => rfl
  have gcheck_bodies := PySem.W.mg_of X G acheck_bodies
  have Fstatement_at := fun_mk (st := sstatement_at) lstatement_at cstatement_at kstatement_at
  have bstatement_at := Fstatement_at.binds (ps := ["body", "path"]) fun _ _ _ _ _ _ us hl => match us, hl with | [_, _], _ => rfl
  have gstatement_at := PySem.W.mg_of X G astatement_at
  have gBook := PySem.W.mg_of X G aBook
  have clBook : Cls K CBook := ⟨pgBook, hdBook, poBook, saBook⟩
  have c_LIST_LIMIT := PySem.W.mg_of X G qLIST_LIMIT
  have c_PROCEDURE_LIMIT := PySem.W.mg_of X G qPROCEDURE_LIMIT
  have c_LAST_LEVEL := PySem.W.mg_of X G qLAST_LEVEL
  have c_ROW_LIMIT := PySem.W.mg_of X G qROW_LIMIT
  have c_MOST_CELLS := PySem.W.mg_of X G qMOST_CELLS
  have c_MOST_PROCEDURES := PySem.W.mg_of X G qMOST_PROCEDURES
  have c_SIZES := PySem.W.mg_of X G qSIZES
  have FBook___init__ := fun_mk (st := sBook___init__) lBook___init__ cBook___init__ kBook___init__
  have bBook___init__ := FBook___init__.binds (ps := ["self", "cells", "bodies"]) fun _ _ _ _ _ _ us hl => match us, hl with | [_, _, _], _ => rfl
  have FBook_cells := fun_mk (st := sBook_cells) lBook_cells cBook_cells kBook_cells
  have bBook_cells := FBook_cells.binds (ps := ["self"]) fun _ _ _ _ _ _ us hl => match us, hl with | [_], _ => rfl
  have FBook_bodies := fun_mk (st := sBook_bodies) lBook_bodies cBook_bodies kBook_bodies
  have bBook_bodies := FBook_bodies.binds (ps := ["self"]) fun _ _ _ _ _ _ us hl => match us, hl with | [_], _ => rfl
  have FBook___len__ := fun_mk (st := sBook___len__) lBook___len__ cBook___len__ kBook___len__
  have bBook___len__ := FBook___len__.binds (ps := ["self"]) fun _ _ _ _ _ _ us hl => match us, hl with | [_], _ => rfl
  have gFrame := PySem.W.mg_of X G aFrame
  have clFrame : Cls K CFrame := ⟨pgFrame, hdFrame, poFrame, saFrame⟩
  have FFrame___init__ := fun_mk (st := sFrame___init__) lFrame___init__ cFrame___init__ kFrame___init__
  have bFrame___init__ := FFrame___init__.binds (ps := ["self", "word", "block", "told"]) fun _ _ _ _ _ _ us hl => match us, hl with | [_, _, _, _], _ => rfl
  have gExecution := PySem.W.mg_of X G aExecution
  have clExecution : Cls K CExecution := ⟨pgExecution, hdExecution, poExecution, saExecution⟩
  have FExecution___init__ := fun_mk (st := sExecution___init__) lExecution___init__ cExecution___init__ kExecution___init__
  have bExecution___init__ := FExecution___init__.binds (ps := ["self", "book", "procedure", "bits"]) fun _ _ _ _ _ _ us hl => match us, hl with | [_, _, _, _], _ => rfl
  have FExecution__bit := fun_mk (st := sExecution__bit) lExecution__bit cExecution__bit kExecution__bit
  have bExecution__bit := FExecution__bit.binds (ps := ["self"]) fun _ _ _ _ _ _ us hl => match us, hl with | [_], _ => rfl
  have FExecution__open := fun_mk (st := sExecution__open) lExecution__open cExecution__open kExecution__open
  have bExecution__open := FExecution__open.binds (ps := ["self", "word", "block", "told"]) fun _ _ _ _ _ _ us hl => match us, hl with | [_, _, _, _], _ => rfl
  have FExecution__begin := fun_mk (st := sExecution__begin) lExecution__begin cExecution__begin kExecution__begin
  have bExecution__begin := FExecution__begin.binds (ps := ["self", "procedure", "blocks"]) fun _ _ _ _ _ _ us hl => match us, hl with | [_, _, _], _ => rfl
  have FExecution__advance := fun_mk (st := sExecution__advance) lExecution__advance cExecution__advance kExecution__advance
  have bExecution__advance := FExecution__advance.binds (ps := ["self"]) fun _ _ _ _ _ _ us hl => match us, hl with | [_], _ => rfl
  have FExecution__execute := fun_mk (st := sExecution__execute) lExecution__execute cExecution__execute kExecution__execute
  have bExecution__execute := FExecution__execute.binds (ps := ["self", "statement"]) fun _ _ _ _ _ _ us hl => match us, hl with | [_, _], _ => rfl
  have FExecution__command := fun_mk (st := sExecution__command) lExecution__command cExecution__command kExecution__command
  have bExecution__command := FExecution__command.binds (ps := ["self", "place", "row"]) fun _ _ _ _ _ _ us hl => match us, hl with | [_, _, _], _ => rfl
  have FExecution__leave := fun_mk (st := sExecution__leave) lExecution__leave cExecution__leave kExecution__leave
  have bExecution__leave := FExecution__leave.binds (ps := ["self", "frame"]) fun _ _ _ _ _ _ us hl => match us, hl with | [_, _], _ => rfl
  have FExecution__close := fun_mk (st := sExecution__close) lExecution__close cExecution__close kExecution__close
  have bExecution__close := FExecution__close.binds (ps := ["self"]) fun _ _ _ _ _ _ us hl => match us, hl with | [_], _ => rfl
  have FExecution__end := fun_mk (st := sExecution__end) lExecution__end cExecution__end kExecution__end
  have bExecution__end := FExecution__end.binds (ps := ["self", "way"]) fun _ _ _ _ _ _ us hl => match us, hl with | [_, _], _ => rfl
  have gNoRun := PySem.W.mg_of X G aNoRun
  have FNoRun___init__ := fun_mk (st := sNoRun___init__) lNoRun___init__ cNoRun___init__ kNoRun___init__
  have bNoRun___init__ := FNoRun___init__.binds (ps := ["self", "index"]) fun _ _ _ _ _ _ us hl => match us, hl with | [_, _], _ => rfl
  have TNoRun : L2.OexC K CNoRun := ⟨⟨_, _, _, _, _, _, _, _, _, _, _, _, _, _, _, xNoRun, rNoRun⟩, saNoRun, bNoRun, tNoRun, kNoRun⟩
  have gNoProcedure := PySem.W.mg_of X G aNoProcedure
  have gNoBoard := PySem.W.mg_of X G aNoBoard
  have gNoNumber := PySem.W.mg_of X G aNoNumber
  have gBoardError := PySem.W.mg_of X G aBoardError
  have eNoProcedureNoProcedure : PySem.W.exmOne K (.ref CNoProcedure) (.ref CNoProcedure) = some true := PySem.W.exm_ref bNoProcedure hdNoProcedure tNoProcedure sNoProcedureNoProcedure
  have eNoRunNoProcedure : PySem.W.exmOne K (.ref CNoRun) (.ref CNoProcedure) = some false := PySem.W.exm_ref bNoProcedure hdNoProcedure tNoProcedure sNoRunNoProcedure
  have eNoRunNoRun : PySem.W.exmOne K (.ref CNoRun) (.ref CNoRun) = some true := PySem.W.exm_ref bNoRun hdNoRun tNoRun sNoRunNoRun
  have eNoBoardNoProcedure : PySem.W.exmOne K (.ref CNoBoard) (.ref CNoProcedure) = some false := PySem.W.exm_ref bNoProcedure hdNoProcedure tNoProcedure sNoBoardNoProcedure
  have eNoBoardNoRun : PySem.W.exmOne K (.ref CNoBoard) (.ref CNoRun) = some false := PySem.W.exm_ref bNoRun hdNoRun tNoRun sNoBoardNoRun
  have eNoBoardNoBoard : PySem.W.exmOne K (.ref CNoBoard) (.ref CNoBoard) = some true := PySem.W.exm_ref bNoBoard hdNoBoard tNoBoard sNoBoardNoBoard
  have eNoNumberNoProcedure : PySem.W.exmOne K (.ref CNoNumber) (.ref CNoProcedure) = some false := PySem.W.exm_ref bNoProcedure hdNoProcedure tNoProcedure sNoNumberNoProcedure
  have eNoNumberNoRun : PySem.W.exmOne K (.ref CNoNumber) (.ref CNoRun) = some false := PySem.W.exm_ref bNoRun hdNoRun tNoRun sNoNumberNoRun
  have eNoNumberNoBoard : PySem.W.exmOne K (.ref CNoNumber) (.ref CNoBoard) = some false := PySem.W.exm_ref bNoBoard hdNoBoard tNoBoard sNoNumberNoBoard
  have eNoNumberNoNumber : PySem.W.exmOne K (.ref CNoNumber) (.ref CNoNumber) = some true := PySem.W.exm_ref bNoNumber hdNoNumber tNoNumber sNoNumberNoNumber
  have Fis_board := fun_mk (st := sis_board) lis_board cis_board kis_board
  have bis_board := Fis_board.binds (ps := ["value", "cells"]) fun _ _ _ _ _ _ us hl => match us, hl with | [_, _], _ => rfl
  have gis_board := PySem.W.mg_of X G ais_board
  have Fcheck_bits := fun_mk (st := scheck_bits) lcheck_bits ccheck_bits kcheck_bits
  have bcheck_bits := Fcheck_bits.binds (ps := ["bits"]) fun _ _ _ _ _ _ us hl => match us, hl with | [_], _ => rfl
  have gcheck_bits := PySem.W.mg_of X G acheck_bits
  have Fexecuted := fun_mk (st := sexecuted) lexecuted cexecuted kexecuted
  have bexecuted := Fexecuted.binds (ps := ["book", "procedure", "bits"]) fun _ _ _ _ _ _ us hl => match us, hl with | [_, _, _], _ => rfl
  have gexecuted := PySem.W.mg_of X G aexecuted
  have Fbehind := fun_mk (st := sbehind) lbehind cbehind kbehind
  have bbehind := Fbehind.binds (ps := ["steps", "vector"]) fun _ _ _ _ _ _ us hl => match us, hl with | [_, _], _ => rfl
  have gbehind := PySem.W.mg_of X G abehind
  have Frun_of := fun_mk (st := srun_of) lrun_of crun_of krun_of
  have brun_of := Frun_of.binds (ps := ["book", "procedure", "bits"]) fun _ _ _ _ _ _ us hl => match us, hl with | [_, _, _], _ => rfl
  have grun_of := PySem.W.mg_of X G arun_of
  have Fgiven_board := fun_mk (st := sgiven_board) lgiven_board cgiven_board kgiven_board
  have bgiven_board := Fgiven_board.binds (ps := ["book", "board"]) fun _ _ _ _ _ _ us hl => match us, hl with | [_, _], _ => rfl
  have ggiven_board := PySem.W.mg_of X G agiven_board
  have gplayed := PySem.W.mg_of X G aplayed
  have Dplayed : L2.FunD K "played" "played" (defArgs splayed) (defBody splayed) (defScope splayed) [] [("board", .non), ("n", .int 0)] fplayed (PySem.W.fnOf "played" "played" (defArgs splayed) (defBody splayed) (defScope splayed) .none (.ref kDplayed) dcplayed pmplayed anplayed cdplayed ctplayed) := ⟨⟨_, _, _, _, _, _, _, _, _, _, rfl, lplayed, cplayed, .inl ⟨rfl, rfl⟩, .inr ⟨kDplayed, rfl, mem_cases ⟨_, kwplayed_board, rfl⟩ (mem_cases ⟨_, kwplayed_n, ⟨_, rfl⟩⟩ (fun q hq => (nomatch hq)))⟩⟩, kplayed⟩
  have Fplayed := fun_mk (st := splayed) lplayed cplayed kplayed
  have F_law_pool := fun_mk (st := s_law_pool) l_law_pool c_law_pool k_law_pool
  have b_law_pool := F_law_pool.binds (ps := ["script"]) fun _ _ _ _ _ _ us hl => match us, hl with | [_], _ => rfl
  have g_law_pool := PySem.W.mg_of X G a_law_pool
  have F_law_draw := fun_mk (st := s_law_draw) l_law_draw c_law_draw k_law_draw
  have b_law_draw := F_law_draw.binds (ps := ["pool", "many"]) fun _ _ _ _ _ _ us hl => match us, hl with | [_, _], _ => rfl
  have g_law_draw := PySem.W.mg_of X G a_law_draw
  have F_law_number := fun_mk (st := s_law_number) l_law_number c_law_number k_law_number
  have b_law_number := F_law_number.binds (ps := ["pool"]) fun _ _ _ _ _ _ us hl => match us, hl with | [_], _ => rfl
  have g_law_number := PySem.W.mg_of X G a_law_number
  have F_law_board := fun_mk (st := s_law_board) l_law_board c_law_board k_law_board
  have b_law_board := F_law_board.binds (ps := ["pool", "cells"]) fun _ _ _ _ _ _ us hl => match us, hl with | [_, _], _ => rfl
  have g_law_board := PySem.W.mg_of X G a_law_board
  have F_law_row := fun_mk (st := s_law_row) l_law_row c_law_row k_law_row
  have b_law_row := F_law_row.binds (ps := ["pool", "cells"]) fun _ _ _ _ _ _ us hl => match us, hl with | [_, _], _ => rfl
  have g_law_row := PySem.W.mg_of X G a_law_row
  have F_law_command := fun_mk (st := s_law_command) l_law_command c_law_command k_law_command
  have b_law_command := F_law_command.binds (ps := ["pool", "cells"]) fun _ _ _ _ _ _ us hl => match us, hl with | [_, _], _ => rfl
  have g_law_command := PySem.W.mg_of X G a_law_command
  have F_law_some_cells := fun_mk (st := s_law_some_cells) l_law_some_cells c_law_some_cells k_law_some_cells
  have b_law_some_cells := F_law_some_cells.binds (ps := ["pool", "cells"]) fun _ _ _ _ _ _ us hl => match us, hl with | [_, _], _ => rfl
  have g_law_some_cells := PySem.W.mg_of X G a_law_some_cells
  have F_law_block := fun_mk (st := s_law_block) l_law_block c_law_block k_law_block
  have b_law_block := F_law_block.binds (ps := ["pool", "world", "tier", "most"]) fun _ _ _ _ _ _ us hl => match us, hl with | [_, _, _, _], _ => rfl
  have g_law_block := PySem.W.mg_of X G a_law_block
  have F_law_statement := fun_mk (st := s_law_statement) l_law_statement c_law_statement k_law_statement
  have b_law_statement := F_law_statement.binds (ps := ["pool", "world", "tier"]) fun _ _ _ _ _ _ us hl => match us, hl with | [_, _, _], _ => rfl
  have g_law_statement := PySem.W.mg_of X G a_law_statement
  have F_law_body := fun_mk (st := s_law_body) l_law_body c_law_body k_law_body
  have b_law_body := F_law_body.binds (ps := ["pool", "cells", "many", "room", "tier"]) fun _ _ _ _ _ _ us hl => match us, hl with | [_, _, _, _, _], _ => rfl
  have g_law_body := PySem.W.mg_of X G a_law_body
  have F_law_same := fun_mk (st := s_law_same) l_law_same c_law_same k_law_same
  have b_law_same := F_law_same.binds (ps := ["actual", "due"]) fun _ _ _ _ _ _ us hl => match us, hl with | [_, _], _ => rfl
  have g_law_same := PySem.W.mg_of X G a_law_same
  have F_law_bit := fun_mk (st := s_law_bit) l_law_bit c_law_bit k_law_bit
  have b_law_bit := F_law_bit.binds (ps := ["state"]) fun _ _ _ _ _ _ us hl => match us, hl with | [_], _ => rfl
  have g_law_bit := PySem.W.mg_of X G a_law_bit
  have F_law_value := fun_mk (st := s_law_value) l_law_value c_law_value k_law_value
  have b_law_value := F_law_value.binds (ps := ["row", "state"]) fun _ _ _ _ _ _ us hl => match us, hl with | [_, _], _ => rfl
  have g_law_value := PySem.W.mg_of X G a_law_value
  have F_law_execute := fun_mk (st := s_law_execute) l_law_execute c_law_execute k_law_execute
  have b_law_execute := F_law_execute.binds (ps := ["bodies", "state", "block"]) fun _ _ _ _ _ _ us hl => match us, hl with | [_, _, _], _ => rfl
  have g_law_execute := PySem.W.mg_of X G a_law_execute
  have F_law_execute_one := fun_mk (st := s_law_execute_one) l_law_execute_one c_law_execute_one k_law_execute_one
  have b_law_execute_one := F_law_execute_one.binds (ps := ["bodies", "state", "statement"]) fun _ _ _ _ _ _ us hl => match us, hl with | [_, _, _], _ => rfl
  have g_law_execute_one := PySem.W.mg_of X G a_law_execute_one
  have F_law_execute_keep := fun_mk (st := s_law_execute_keep) l_law_execute_keep c_law_execute_keep k_law_execute_keep
  have b_law_execute_keep := F_law_execute_keep.binds (ps := ["bodies", "state", "kept", "block"]) fun _ _ _ _ _ _ us hl => match us, hl with | [_, _, _, _], _ => rfl
  have g_law_execute_keep := PySem.W.mg_of X G a_law_execute_keep
  have F_law_execute_again := fun_mk (st := s_law_execute_again) l_law_execute_again c_law_execute_again k_law_execute_again
  have b_law_execute_again := F_law_execute_again.binds (ps := ["bodies", "state", "block"]) fun _ _ _ _ _ _ us hl => match us, hl with | [_, _, _], _ => rfl
  have g_law_execute_again := PySem.W.mg_of X G a_law_execute_again
  have F_law_execute_call := fun_mk (st := s_law_execute_call) l_law_execute_call c_law_execute_call k_law_execute_call
  have b_law_execute_call := F_law_execute_call.binds (ps := ["bodies", "state", "statement"]) fun _ _ _ _ _ _ us hl => match us, hl with | [_, _, _], _ => rfl
  have g_law_execute_call := PySem.W.mg_of X G a_law_execute_call
  have F_law_execute_procedure := fun_mk (st := s_law_execute_procedure) l_law_execute_procedure c_law_execute_procedure k_law_execute_procedure
  have b_law_execute_procedure := F_law_execute_procedure.binds (ps := ["bodies", "state", "procedure"]) fun _ _ _ _ _ _ us hl => match us, hl with | [_, _, _], _ => rfl
  have g_law_execute_procedure := PySem.W.mg_of X G a_law_execute_procedure
  have F_law_played := fun_mk (st := s_law_played) l_law_played c_law_played k_law_played
  have b_law_played := F_law_played.binds (ps := ["bodies", "procedure", "bits", "stand", "load"]) fun _ _ _ _ _ _ us hl => match us, hl with | [_, _, _, _, _], _ => rfl
  have g_law_played := PySem.W.mg_of X G a_law_played
  have F_law_bits := fun_mk (st := s_law_bits) l_law_bits c_law_bits k_law_bits
  have b_law_bits := F_law_bits.binds (ps := ["pool", "most"]) fun _ _ _ _ _ _ us hl => match us, hl with | [_, _], _ => rfl
  have g_law_bits := PySem.W.mg_of X G a_law_bits
  have F_law_blocks := fun_mk (st := s_law_blocks) l_law_blocks c_law_blocks k_law_blocks
  have b_law_blocks := F_law_blocks.binds (ps := ["statement"]) fun _ _ _ _ _ _ us hl => match us, hl with | [_], _ => rfl
  have g_law_blocks := PySem.W.mg_of X G a_law_blocks
  have F_law_endless := fun_mk (st := s_law_endless) l_law_endless c_law_endless k_law_endless
  have b_law_endless := F_law_endless.binds (ps := ["block", "cells"]) fun _ _ _ _ _ _ us hl => match us, hl with | [_, _], _ => rfl
  have g_law_endless := PySem.W.mg_of X G a_law_endless
  have F_law_asked := fun_mk (st := s_law_asked) l_law_asked c_law_asked k_law_asked
  have b_law_asked := F_law_asked.binds (ps := ["book", "bits", "start", "load"]) fun _ _ _ _ _ _ us hl => match us, hl with | [_, _, _, _], _ => rfl
  have g_law_asked := PySem.W.mg_of X G a_law_asked
  have Flaw := fun_mk (st := slaw) llaw claw klaw
  have blaw := Flaw.binds (ps := ["script"]) fun _ _ _ _ _ _ us hl => match us, hl with | [_], _ => rfl
  have glaw := PySem.W.mg_of X G alaw
  have z_int := PySem.W.mg_none_of X G y_int
  have z_len := PySem.W.mg_none_of X G y_len
  have z_list := PySem.W.mg_none_of X G y_list
  have z_tuple := PySem.W.mg_none_of X G y_tuple
  have z_range := PySem.W.mg_none_of X G y_range
  have z_isinstance := PySem.W.mg_none_of X G y_isinstance
  have z_bool := PySem.W.mg_none_of X G y_bool
  have z_str := PySem.W.mg_none_of X G y_str
  have z_dict := PySem.W.mg_none_of X G y_dict
  have z_all := PySem.W.mg_none_of X G y_all
  have z_zip := PySem.W.mg_none_of X G y_zip
  have z_enumerate := PySem.W.mg_none_of X G y_enumerate
  have z_reversed := PySem.W.mg_none_of X G y_reversed
  have z_sum := PySem.W.mg_none_of X G y_sum
  refine ⟨PySem.W.fnOf "law" "law" (defArgs slaw) (defBody slaw) (defScope slaw) .none kVlaw dclaw pmlaw anlaw cdlaw ctlaw, fun s v => .of_eq rfl, fun base _ _ => ?_⟩
  have S7 : Sizes K w a_SIZES esSIZES nSIZES ok7 := sizes7 ⟨dSIZES, klSIZES, loSIZES⟩ wSIZES0 wSIZES1 wSIZES2 wSIZES3 wSIZES4 wSIZES5 wSIZES6
  have Cis_integer : Cal l.prog w K mg base 1 "is_integer" (spInt K) [] := ⟨_, _, _, [], ok_is_integer Fis_integer z_isinstance z_int z_bool, gis_integer, Fis_integer.kp, bis_integer, .nil⟩
  have Cis_between : Cal l.prog w K mg base 2 "is_between" (spBtw K) [] := ⟨_, _, _, [], ok_is_between Fis_between Cis_integer (by decide), gis_between, Fis_between.kp, bis_between, .nil⟩
  have Cis_bit : Cal l.prog w K mg base 3 "is_bit" (spBit K) [] := ⟨_, _, _, [], ok_is_bit Fis_bit Cis_between (by decide), gis_bit, Fis_bit.kp, bis_bit, .nil⟩
  have Cis_index : Cal l.prog w K mg base 3 "is_index" (spIx K) [] := ⟨_, _, _, [], ok_is_index Fis_index Cis_between (by decide), gis_index, Fis_index.kp, bis_index, .nil⟩
  have Cis_row : Cal l.prog w K mg base 3 "is_row" (spRw K) [] := ⟨_, _, _, [], ok_is_row Fis_row z_isinstance z_list z_len z_all c_ROW_LIMIT Cis_between (by decide), gis_row, Fis_row.kp, bis_row, .nil⟩
  have Cis_block_pair : Cal l.prog w K mg base 1 "is_block_pair" (spPair K) [] := ⟨_, _, _, [], ok_is_block_pair Fis_block_pair z_isinstance z_list z_len, gis_block_pair, Fis_block_pair.kp, bis_block_pair, .nil⟩
  have Cis_sized : Cal l.prog w K mg base 1 "is_sized" (spSized K ok7) [] := ⟨_, _, _, [], ok_is_sized Fis_sized z_isinstance z_tuple z_str z_len c_SIZES S7, gis_sized, Fis_sized.kp, bis_sized, .nil⟩
  have Cis_cell_list : Cal l.prog w K mg base 4 "is_cell_list" (spCl K) [] := ⟨_, _, _, [], ok_is_cell_list Fis_cell_list z_isinstance z_list z_all z_zip Cis_index (by decide), gis_cell_list, Fis_cell_list.kp, bis_cell_list, .nil⟩
  have Cis_statement : Cal l.prog w K mg base 5 "is_statement" (spStm K ok7) [] := ⟨_, _, _, [], ok_is_statement Fis_statement z_isinstance z_list Cis_sized Cis_index Cis_bit Cis_row Cis_cell_list Cis_block_pair (by decide), gis_statement, Fis_statement.kp, bis_statement, .nil⟩
  have Cblocks_of : Cal l.prog w K mg base 1 "blocks_of" (spBlocks K) [] := ⟨_, _, _, [], ok_blocks_of Fblocks_of, gblocks_of, Fblocks_of.kp, bblocks_of, .nil⟩
  have Centries : Cal l.prog w K mg base 1 "entries" (spEntries K) [] := ⟨_, _, _, [], ok_entries Fentries z_range z_reversed z_len, gentries, Fentries.kp, bentries, .nil⟩
  have Cfits : Cal l.prog w K mg base 6 "fits" (spFits K ok7) [] := ⟨_, _, _, [], ok_fits Ffits z_len c_LIST_LIMIT c_LAST_LEVEL Cis_statement Cblocks_of (by decide), gfits, Ffits.kp, bfits, .nil⟩
  have Cfirst_fault : Cal l.prog w K mg base 7 "first_fault" (spFF K ok7) [] := ⟨_, _, _, [], ok_first_fault Ffirst_fault z_range z_reversed z_len c_PROCEDURE_LIMIT Centries Cfits Cblocks_of (by decide), gfirst_fault, Ffirst_fault.kp, bfirst_fault, .nil⟩
  have Ccheck_bodies : Cal l.prog w K mg base 8 "check_bodies" (spChk K ok7) [] := ⟨_, _, _, [], ok_check_bodies Fcheck_bodies z_isinstance z_list z_len z_enumerate c_MOST_PROCEDURES Cfirst_fault (by decide), gcheck_bodies, Fcheck_bodies.kp, bcheck_bodies, .nil⟩
  have Ccopied : Cal l.prog w K mg base 15 "copied" (spCopy K 15) [] := ⟨_, _, _, [], ok_copied Fcopied gcopied bcopied z_isinstance z_list z_tuple z_dict 15, gcopied, Fcopied.kp, bcopied, .nil⟩
  have MBook : C8.Mak l.prog w K mg base 16 "Book" CBook (spInit K ok7 CBook 15) [] := mak_Book ⟨mkBook, aBook___init__, iBook___init__, kcBook⟩ gBook FBook___init__ bBook___init__ clBook nBook_cells nBook_bodies c_MOST_CELLS Cis_between Ccheck_bodies Ccopied (by decide) (by decide)
  have ON := ok_norun (P := l.prog) (w := w) (base := base) (k := 15) FNoRun___init__ TNoRun nNoRun_index Ccopied (by decide)
  have XC : ExC K CExecution CFrame := ⟨clExecution, clFrame, nExecution_bodies, nExecution_last, nExecution_bits, nExecution_taken, nExecution_frames, nExecution_begun, nExecutionsteps, nExecutionlength, nExecutionway, nFrameword, nFrameblock, nFrametold, nFrameat⟩
  have MFr : C8.Mak l.prog w K mg base 2 "Frame" CFrame (spFrame CFrame) [] := ⟨_, _, _, [], ⟨mkFrame, aFrame___init__, iFrame___init__, kcFrame⟩, ok_frame (k := 1) FFrame___init__ XC, gFrame, bFrame___init__, .nil⟩
  have OOp := (fun {fd0 : FuncData} (F0 : Fun K "_open" "Execution._open" sExecution__open fExecution__open fd0) => ok_open (P := l.prog) (w := w) (base := base) (k := 3) (fF := fExecution__open) (fdF := fd0) F0 XC MFr (by decide)) FExecution__open
  have OBi := ok_bit (P := l.prog) (w := w) (base := base) (k := 17) FExecution__bit XC z_len TNoRun aNoRun___init__ tiNoRun ON bNoRun___init__ gNoRun (by decide)
  have OCm := ok_cmd (P := l.prog) (w := w) (base := base) (mg := mg) (k := 0) FExecution__command XC
  have OCl := ok_close (P := l.prog) (w := w) (base := base) (mg := mg) (k := 0) FExecution__close XC
  have OBe := ok_begin (P := l.prog) (w := w) (base := base) (k := 17) FExecution__begin XC OOp ⟨aExecution__open, iExecution__open, kExecution__open⟩ bExecution__open TNoRun aNoRun___init__ tiNoRun ON bNoRun___init__ gNoRun (by decide)
  have OEn := ok_end (P := l.prog) (w := w) (base := base) (k := 4) FExecution__end XC OOp ⟨aExecution__open, iExecution__open, kExecution__open⟩ bExecution__open OCl ⟨aExecution__close, iExecution__close, kExecution__close⟩ bExecution__close (by decide)
  have OLe := ok_leave (P := l.prog) (w := w) (base := base) (k := 18) FExecution__leave XC OEn ⟨aExecution__end, iExecution__end, kExecution__end⟩ bExecution__end OCl ⟨aExecution__close, iExecution__close, kExecution__close⟩ bExecution__close OBi ⟨aExecution__bit, iExecution__bit, kExecution__bit⟩ bExecution__bit (by decide)
  have OEx := ok_execute (P := l.prog) (w := w) (base := base) (k := 18) FExecution__execute XC z_len OEn ⟨aExecution__end, iExecution__end, kExecution__end⟩ bExecution__end OCm ⟨aExecution__command, iExecution__command, kExecution__command⟩ bExecution__command OOp ⟨aExecution__open, iExecution__open, kExecution__open⟩ bExecution__open OBe ⟨aExecution__begin, iExecution__begin, kExecution__begin⟩ bExecution__begin OBi ⟨aExecution__bit, iExecution__bit, kExecution__bit⟩ bExecution__bit (by decide)
  have OAd := ok_advance (P := l.prog) (w := w) (base := base) (k := 19) FExecution__advance XC z_len OLe ⟨aExecution__leave, iExecution__leave, kExecution__leave⟩ bExecution__leave OEx ⟨aExecution__execute, iExecution__execute, kExecution__execute⟩ bExecution__execute (by decide)
  have OBb := ok_bodies_told (P := l.prog) (w := w) (base := base) (k := 15) (cn := 15) FBook_bodies clBook nBook_bodies Ccopied (by decide)
  have OBc := ok_cells_told (P := l.prog) (w := w) (base := base) (mg := mg) (k := 0) FBook_cells clBook nBook_cells
  have OBl := ok_len (P := l.prog) (w := w) (base := base) (k := 0) FBook___len__ clBook nBook_bodies z_len
  have OEi := ok_exinit (P := l.prog) (w := w) (base := base) (k := 20) FExecution___init__ XC z_len clBook OBb ⟨aBook_bodies, iBook_bodies, kBook_bodies⟩ bBook_bodies OBc ⟨aBook_cells, iBook_cells, kBook_cells⟩ bBook_cells OBe ⟨aExecution__begin, iExecution__begin, kExecution__begin⟩ bExecution__begin OAd ⟨aExecution__advance, iExecution__advance, kExecution__advance⟩ bExecution__advance TNoRun aNoRun___init__ tiNoRun ON bNoRun___init__ gNoRun (by decide)
  have OCb := ok_check_bits (P := l.prog) (w := w) (base := base) (k := 17) Fcheck_bits z_isinstance z_list z_enumerate Cis_bit TNoRun aNoRun___init__ tiNoRun ON bNoRun___init__ gNoRun (by decide)
  have OXd := ok_executed (P := l.prog) (w := w) (base := base) (k := 22) Fexecuted OCb gcheck_bits kcheck_bits bcheck_bits ⟨mkExecution, aExecution___init__, iExecution___init__, kcExecution⟩ OEi gExecution bExecution___init__ (by decide)
  have ORo := ok_run_of (P := l.prog) (w := w) (base := base) (k := 23) Frun_of z_len clBook OBl aBook___len__ iBook___len__ bBook___len__ Cis_index OXd gexecuted kexecuted bexecuted PySem.F.excBase_ValueError xNoProcedure gNoProcedure kNoProcedure bNoProcedure tNoProcedure (by decide)
  have Cis_board : Cal l.prog w K mg base 3 "is_board" (spBoard K) [] := ⟨_, _, _, [], ok_is_board Fis_board z_isinstance z_tuple z_len z_all Cis_integer (by decide), gis_board, Fis_board.kp, bis_board, .nil⟩
  have OGb := (fun {fd0 : FuncData} (F0 : Fun K "given_board" "given_board" sgiven_board fgiven_board fd0) => ok_given_board (P := l.prog) (w := w) (base := base) (k := 3) (fb := fgiven_board) (fdb := fd0) F0 z_tuple clBook OBc ⟨aBook_cells, iBook_cells, kBook_cells⟩ bBook_cells Cis_board PySem.F.excBase_ValueError xNoBoard gNoBoard kNoBoard bNoBoard tNoBoard (by decide)) Fgiven_board
  have Cbehind : Cal l.prog w K mg base 1 "behind" (spBeh K) [] := ⟨_, _, _, [], ok_behind Fbehind z_list z_sum z_zip, gbehind, Fbehind.kp, bbehind, .nil⟩
  have OPl := ok_played (P := l.prog) (w := w) (base := base) (k := 24) Fplayed XC z_tuple ORo grun_of krun_of brun_of OGb ggiven_board kgiven_board bgiven_board Cis_integer Cbehind PySem.F.excBase_ValueError xNoNumber gNoNumber kNoNumber bNoNumber tNoNumber (by decide)
  obtain ⟨dsP, D0, B0⟩ := L2.FunD.binds0 (ps := ["book", "procedure", "bits", "board", "n"]) Dplayed 3 (by simp) rfl (fun D doc pm an cdv ct us ks l1 l2 => match us, ks, l1, l2 with | [_, _, _], [_, _], _, _ => ⟨_, _, _, _, _, _, rfl, rfl, ⟨_, _, _, _, _, _, rfl, rfl, rfl⟩⟩)
  obtain ⟨_, KB2⟩ := L2.FunD.kbinds0 (ps := ["book", "procedure", "bits", "board", "n"]) Dplayed 3 ["board", "n"] [] (fun vs mz zs => vs ++ zs) (by simp) (fun _ h => (nomatch h)) (fun r1 r2 r3 => L2.Vals.append r1 r3) (fun D doc pm an cdv ct us mv ks l1 _ l2 => match us, ks, l1, l2 with | [_, _, _], [_, _], _, _ => rfl)
  obtain ⟨_, KBN⟩ := L2.FunD.kbinds0 (ps := ["book", "procedure", "bits", "board", "n"]) Dplayed 3 ["n"] [("board", .non)] (fun vs mz zs => vs ++ mz ++ zs) (by simp) (fun q h => by rw [List.mem_singleton.mp h]; simp) (fun r1 r2 r3 => L2.Vals.append (L2.Vals.append r1 r2) r3) (fun D doc pm an cdv ct us mv ks l1 l3 l2 => match us, mv, ks, l1, l3, l2 with | [_, _, _], [_], [_], _, _, _ => ⟨_, _, _, _, _, _, rfl, rfl, rfl⟩)
  obtain ⟨_, KBB⟩ := L2.FunD.kbinds0 (ps := ["book", "procedure", "bits", "board", "n"]) Dplayed 3 ["board"] [("n", .int 0)] (fun vs mz zs => vs ++ zs ++ mz) (by simp) (fun q h => by rw [List.mem_singleton.mp h]; simp) (fun r1 r2 r3 => L2.Vals.append (L2.Vals.append r1 r3) r2) (fun D doc pm an cdv ct us mv ks l1 l3 l2 => match us, mv, ks, l1, l3, l2 with | [_, _, _], [_], [_], _, _, _ => ⟨_, _, _, _, _, _, rfl, rfl, rfl⟩)
  have C_law_pool : Cal l.prog w K mg base 1 "_law_pool" (spPool K) [] := ⟨_, _, _, [], ok_pool F_law_pool z_int z_list, g_law_pool, F_law_pool.kp, b_law_pool, .nil⟩
  have C_law_draw : Cal l.prog w K mg base 1 "_law_draw" spDraw [] := ⟨_, _, _, [], ok_draw F_law_draw z_int z_len, g_law_draw, F_law_draw.kp, b_law_draw, .nil⟩
  have C_law_row : Cal l.prog w K mg base 2 "_law_row" spRow [] := ⟨_, _, _, [], ok_row F_law_row z_range C_law_draw (by decide), g_law_row, F_law_row.kp, b_law_row, .nil⟩
  have C_law_command : Cal l.prog w K mg base 3 "_law_command" spCmd [] := ⟨_, _, _, [], ok_command F_law_command C_law_draw C_law_row (by decide), g_law_command, F_law_command.kp, b_law_command, .nil⟩
  have C_law_some_cells : Cal l.prog w K mg base 2 "_law_some_cells" spCells [] := ⟨_, _, _, [], ok_cells F_law_some_cells z_range C_law_draw (by decide), g_law_some_cells, F_law_some_cells.kp, b_law_some_cells, .nil⟩
  have LV := gen_levels F_law_statement F_law_block g_law_statement g_law_block b_law_statement b_law_block z_range C_law_draw C_law_row C_law_command C_law_some_cells
  have C_law_statement : Cal l.prog w K mg base 10 "_law_statement" (spStmt 0) [] := (LV 3 1 rfl).2 0 rfl
  have C_law_block : Cal l.prog w K mg base 11 "_law_block" (spBlk 0) [] := (LV 4 0 rfl).1
  have C_law_body : Cal l.prog w K mg base 12 "_law_body" (spBodyR 0) [] := ⟨_, _, _, [], ok_bodyR (tt := 0) (by decide) F_law_body C_law_statement C_law_block (by decide), g_law_body, F_law_body.kp, b_law_body, .nil⟩
  have C_law_statement1 : Cal l.prog w K mg base 10 "_law_statement" (spStmt 1) [] := cal_mono9 (by decide) ((LV 2 2 rfl).2 1 rfl)
  have C_law_block1 : Cal l.prog w K mg base 11 "_law_block" (spBlk 1) [] := cal_mono9 (by decide) (LV 3 1 rfl).1
  have C_law_body1 : Cal l.prog w K mg base 12 "_law_body" (spBodyR 1) [] := ⟨_, _, _, [], ok_bodyR (tt := 1) (by decide) F_law_body C_law_statement1 C_law_block1 (by decide), g_law_body, F_law_body.kp, b_law_body, .nil⟩
  have C_law_same : Cal l.prog w K mg base 15 "_law_same" (spSame K 15) [] := ⟨_, _, _, [], ok_same F_law_same g_law_same b_law_same z_len z_isinstance z_bool z_int z_str z_list z_tuple z_range 15, g_law_same, F_law_same.kp, b_law_same, .nil⟩
  have C_law_number : Cal l.prog w K mg base 2 "_law_number" spNumber [] := ⟨_, _, _, [], ok_number F_law_number C_law_draw (by decide), g_law_number, F_law_number.kp, b_law_number, .nil⟩
  have C_law_board : Cal l.prog w K mg base 3 "_law_board" spLBd [] := ⟨_, _, _, [], ok_lboard F_law_board z_range z_tuple C_law_number (by decide), g_law_board, F_law_board.kp, b_law_board, .nil⟩
  have C_law_bits : Cal l.prog w K mg base 2 "_law_bits" spBits [] := ⟨_, _, _, [], ok_lbits F_law_bits z_range z_int C_law_draw (by decide), g_law_bits, F_law_bits.kp, b_law_bits, .nil⟩
  have C_law_blocks : Cal l.prog w K mg base 1 "_law_blocks" (spLBlocks K) [] := ⟨_, _, _, [], ok_lblocks F_law_blocks, g_law_blocks, F_law_blocks.kp, b_law_blocks, .nil⟩
  have C_law_endless : Cal l.prog w K mg base 4 "_law_endless" (spEndl K 3) [] := ⟨_, _, _, [], ok_endless F_law_endless g_law_endless b_law_endless z_range z_tuple C_law_blocks 3, g_law_endless, F_law_endless.kp, b_law_endless, .nil⟩
  have C_law_asked : Cal l.prog w K mg base 27 "_law_asked" (spAskD K CBook) [] := ⟨_, _, _, [], ok_laskedD (k := 26) F_law_asked z_list OPl gplayed kplayed KB2 gNoRun eNoRunNoRun (L2.xfB_ok xfNoRun) nNoRun_index (by decide), g_law_asked, F_law_asked.kp, b_law_asked, .nil⟩
  have C_law_bit : Cal l.prog w K mg base 1 "_law_bit" (spLBit K) [] := ⟨_, _, _, [], ok_lbit F_law_bit z_len, g_law_bit, F_law_bit.kp, b_law_bit, .nil⟩
  have C_law_value : Cal l.prog w K mg base 1 "_law_value" (spLVal K) [] := ⟨_, _, _, [], ok_lvalue F_law_value z_len z_range, g_law_value, F_law_value.kp, b_law_value, .nil⟩
  have LX := lx_all F_law_execute F_law_execute_one F_law_execute_keep F_law_execute_again F_law_execute_call F_law_execute_procedure g_law_execute g_law_execute_one g_law_execute_keep g_law_execute_again g_law_execute_call g_law_execute_procedure b_law_execute b_law_execute_one b_law_execute_keep b_law_execute_again b_law_execute_call b_law_execute_procedure z_len z_list z_range C_law_bit C_law_value 640
  have C_law_played : Cal l.prog w K mg base 226 "_law_played" (spLP K 640) [] := ⟨_, _, _, [], ok_lplayed (k := 225) F_law_played z_len z_list z_tuple LX.2.2.2.2.2 (by decide) (by decide), g_law_played, F_law_played.kp, b_law_played, .nil⟩
  exact ok_law (k := 227) (kp := 226) Flaw ok7_words z_range C_law_pool C_law_draw C_law_row C_law_command C_law_body1 C_law_body C_law_block C_law_block1 C_law_endless MBook C_law_bits C_law_played C_law_asked C_law_same C_law_board C_law_number (by decide) (by decide)
end My
open PySem PySem.W PyProof.Rows
set_option maxHeartbeats 0 in
theorem PySem.Challenge.cw_sharedboard_k09_whole_calls_set_in_holds : PySem.Challenge.rw_sharedboard_k09_whole_calls_set_in.Holds := by
  w_on; o_law; k_head; (case hw => w_witness2)
  k_fill
  refine L2.walk_of (l := PySem.Challenge.rw_sharedboard_k09_whole_calls_set_in) (n := 63) (k := 228) (x := "script") (CX := fun _ => L2.CX0) (sp := fun w => My.spLaw _) rfl (by decide) rfl ⟨rfl, by decide, by decide⟩ (fun w h Y => PySem.W.kIn_of Y) ?F (fun _ _ a ns hl _ hS => ⟨a, ns, rfl, hS, fun _ => rfl⟩) (fun _ _ _ _ _ h => h)
  case F =>
    intro w mg fa h KX G hmg
    refine' My.all_mk KX G hmg ?ais_integer ?lis_integer ?cis_integer ?kis_integer ?ais_between ?lis_between ?cis_between ?kis_between ?ais_bit ?lis_bit ?cis_bit ?kis_bit ?ais_index ?lis_index ?cis_index ?kis_index ?ais_cell_list ?lis_cell_list ?cis_cell_list ?kis_cell_list ?acopied ?lcopied ?ccopied ?kcopied ?ais_row ?lis_row ?cis_row ?kis_row ?ais_block_pair ?lis_block_pair ?cis_block_pair ?kis_block_pair ?ais_sized ?lis_sized ?cis_sized ?kis_sized ?ais_statement ?lis_statement ?cis_statement ?kis_statement ?ablocks_of ?lblocks_of ?cblocks_of ?kblocks_of ?aplaces ?lplaces ?cplaces ?kplaces ?aentries ?lentries ?centries ?kentries ?afits ?lfits ?cfits ?kfits ?afirst_fault ?lfirst_fault ?cfirst_fault ?kfirst_fault ?acheck_bodies ?lcheck_bodies ?ccheck_bodies ?kcheck_bodies ?astatement_at ?lstatement_at ?cstatement_at ?kstatement_at ?aBook ?pgBook ?hdBook ?poBook ?saBook ?mkBook ?kcBook ?nBook_cells ?nBook_bodies ?qLIST_LIMIT ?qPROCEDURE_LIMIT ?qLAST_LEVEL ?qROW_LIMIT ?qMOST_CELLS ?qMOST_PROCEDURES ?qSIZES ?dSIZES ?klSIZES ?loSIZES ?wSIZES0 ?wSIZES1 ?wSIZES2 ?wSIZES3 ?wSIZES4 ?wSIZES5 ?wSIZES6 ?aBook___init__ ?iBook___init__ ?lBook___init__ ?cBook___init__ ?kBook___init__ ?aBook_cells ?iBook_cells ?lBook_cells ?cBook_cells ?kBook_cells ?aBook_bodies ?iBook_bodies ?lBook_bodies ?cBook_bodies ?kBook_bodies ?aBook___len__ ?iBook___len__ ?lBook___len__ ?cBook___len__ ?kBook___len__ ?aFrame ?pgFrame ?hdFrame ?poFrame ?saFrame ?mkFrame ?kcFrame ?nFrameword ?nFrameblock ?nFrametold ?nFrameat ?aFrame___init__ ?iFrame___init__ ?lFrame___init__ ?cFrame___init__ ?kFrame___init__ ?aExecution ?pgExecution ?hdExecution ?poExecution ?saExecution ?mkExecution ?kcExecution ?nExecution_bodies ?nExecution_last ?nExecution_bits ?nExecution_taken ?nExecution_frames ?nExecution_begun ?nExecutionsteps ?nExecutionlength ?nExecutionway ?aExecution___init__ ?iExecution___init__ ?lExecution___init__ ?cExecution___init__ ?kExecution___init__ ?aExecution__bit ?iExecution__bit ?lExecution__bit ?cExecution__bit ?kExecution__bit ?aExecution__open ?iExecution__open ?lExecution__open ?cExecution__open ?kExecution__open ?aExecution__begin ?iExecution__begin ?lExecution__begin ?cExecution__begin ?kExecution__begin ?aExecution__advance ?iExecution__advance ?lExecution__advance ?cExecution__advance ?kExecution__advance ?aExecution__execute ?iExecution__execute ?lExecution__execute ?cExecution__execute ?kExecution__execute ?aExecution__command ?iExecution__command ?lExecution__command ?cExecution__command ?kExecution__command ?aExecution__leave ?iExecution__leave ?lExecution__leave ?cExecution__leave ?kExecution__leave ?aExecution__close ?iExecution__close ?lExecution__close ?cExecution__close ?kExecution__close ?aExecution__end ?iExecution__end ?lExecution__end ?cExecution__end ?kExecution__end ?aNoRun ?xNoRun ?rNoRun ?saNoRun ?kNoRun ?bNoRun ?tNoRun ?hdNoRun ?xfNoRun ?nNoRun_index ?aNoRun___init__ ?iNoRun___init__ ?lNoRun___init__ ?cNoRun___init__ ?kNoRun___init__ ?tiNoRun ?aNoProcedure ?xNoProcedure ?kNoProcedure ?bNoProcedure ?tNoProcedure ?hdNoProcedure ?aNoBoard ?xNoBoard ?kNoBoard ?bNoBoard ?tNoBoard ?hdNoBoard ?aNoNumber ?xNoNumber ?kNoNumber ?bNoNumber ?tNoNumber ?hdNoNumber ?aBoardError ?sNoProcedureNoProcedure ?sNoRunNoProcedure ?sNoRunNoRun ?sNoBoardNoProcedure ?sNoBoardNoRun ?sNoBoardNoBoard ?sNoNumberNoProcedure ?sNoNumberNoRun ?sNoNumberNoBoard ?sNoNumberNoNumber ?ais_board ?lis_board ?cis_board ?kis_board ?acheck_bits ?lcheck_bits ?ccheck_bits ?kcheck_bits ?aexecuted ?lexecuted ?cexecuted ?kexecuted ?abehind ?lbehind ?cbehind ?kbehind ?arun_of ?lrun_of ?crun_of ?krun_of ?agiven_board ?lgiven_board ?cgiven_board ?kgiven_board ?aplayed ?lplayed ?cplayed ?kplayed ?kwplayed_board ?kwplayed_n ?a_law_pool ?l_law_pool ?c_law_pool ?k_law_pool ?a_law_draw ?l_law_draw ?c_law_draw ?k_law_draw ?a_law_number ?l_law_number ?c_law_number ?k_law_number ?a_law_board ?l_law_board ?c_law_board ?k_law_board ?a_law_row ?l_law_row ?c_law_row ?k_law_row ?a_law_command ?l_law_command ?c_law_command ?k_law_command ?a_law_some_cells ?l_law_some_cells ?c_law_some_cells ?k_law_some_cells ?a_law_block ?l_law_block ?c_law_block ?k_law_block ?a_law_statement ?l_law_statement ?c_law_statement ?k_law_statement ?a_law_body ?l_law_body ?c_law_body ?k_law_body ?a_law_same ?l_law_same ?c_law_same ?k_law_same ?a_law_bit ?l_law_bit ?c_law_bit ?k_law_bit ?a_law_value ?l_law_value ?c_law_value ?k_law_value ?a_law_execute ?l_law_execute ?c_law_execute ?k_law_execute ?a_law_execute_one ?l_law_execute_one ?c_law_execute_one ?k_law_execute_one ?a_law_execute_keep ?l_law_execute_keep ?c_law_execute_keep ?k_law_execute_keep ?a_law_execute_again ?l_law_execute_again ?c_law_execute_again ?k_law_execute_again ?a_law_execute_call ?l_law_execute_call ?c_law_execute_call ?k_law_execute_call ?a_law_execute_procedure ?l_law_execute_procedure ?c_law_execute_procedure ?k_law_execute_procedure ?a_law_played ?l_law_played ?c_law_played ?k_law_played ?a_law_bits ?l_law_bits ?c_law_bits ?k_law_bits ?a_law_blocks ?l_law_blocks ?c_law_blocks ?k_law_blocks ?a_law_endless ?l_law_endless ?c_law_endless ?k_law_endless ?a_law_asked ?l_law_asked ?c_law_asked ?k_law_asked ?alaw ?llaw ?claw ?klaw ?y_int ?y_len ?y_list ?y_tuple ?y_range ?y_isinstance ?y_bool ?y_str ?y_dict ?y_all ?y_zip ?y_enumerate ?y_reversed ?y_sum
    (case ais_integer => k_is)
    (case lis_integer => k_is)
    (case cis_integer => k_is)
    (case kis_integer => k_is)
    (case ais_between => k_is)
    (case lis_between => k_is)
    (case cis_between => k_is)
    (case kis_between => k_is)
    (case ais_bit => k_is)
    (case lis_bit => k_is)
    (case cis_bit => k_is)
    (case kis_bit => k_is)
    (case ais_index => k_is)
    (case lis_index => k_is)
    (case cis_index => k_is)
    (case kis_index => k_is)
    (case ais_cell_list => k_is)
    (case lis_cell_list => k_is)
    (case cis_cell_list => k_is)
    (case kis_cell_list => k_is)
    (case acopied => k_is)
    (case lcopied => k_is)
    (case ccopied => k_is)
    (case kcopied => k_is)
    (case ais_row => k_is)
    (case lis_row => k_is)
    (case cis_row => k_is)
    (case kis_row => k_is)
    (case ais_block_pair => k_is)
    (case lis_block_pair => k_is)
    (case cis_block_pair => k_is)
    (case kis_block_pair => k_is)
    (case ais_sized => k_is)
    (case lis_sized => k_is)
    (case cis_sized => k_is)
    (case kis_sized => k_is)
    (case ais_statement => k_is)
    (case lis_statement => k_is)
    (case cis_statement => k_is)
    (case kis_statement => k_is)
    (case ablocks_of => k_is)
    (case lblocks_of => k_is)
    (case cblocks_of => k_is)
    (case kblocks_of => k_is)
    (case aplaces => k_is)
    (case lplaces => k_is)
    (case cplaces => k_is)
    (case kplaces => k_is)
    (case aentries => k_is)
    (case lentries => k_is)
    (case centries => k_is)
    (case kentries => k_is)
    (case afits => k_is)
    (case lfits => k_is)
    (case cfits => k_is)
    (case kfits => k_is)
    (case afirst_fault => k_is)
    (case lfirst_fault => k_is)
    (case cfirst_fault => k_is)
    (case kfirst_fault => k_is)
    (case acheck_bodies => k_is)
    (case lcheck_bodies => k_is)
    (case ccheck_bodies => k_is)
    (case kcheck_bodies => k_is)
    (case astatement_at => k_is)
    (case lstatement_at => k_is)
    (case cstatement_at => k_is)
    (case kstatement_at => k_is)
    (case aBook => k_is)
    (case pgBook => k_is)
    (case hdBook => k_is)
    (case poBook => k_is)
    (case saBook => k_is)
    (case mkBook => k_is)
    (case kcBook => k_is)
    (case nBook_cells => k_is)
    (case nBook_bodies => k_is)
    (case qLIST_LIMIT => k_is)
    (case qPROCEDURE_LIMIT => k_is)
    (case qLAST_LEVEL => k_is)
    (case qROW_LIMIT => k_is)
    (case qMOST_CELLS => k_is)
    (case qMOST_PROCEDURES => k_is)
    (case qSIZES => k_is)
    (case dSIZES => k_is)
    (case klSIZES => k_keys)
    (case loSIZES => first | rfl | decide | k_is)
    (case wSIZES0 => k_is)
    (case wSIZES1 => k_is)
    (case wSIZES2 => k_is)
    (case wSIZES3 => k_is)
    (case wSIZES4 => k_is)
    (case wSIZES5 => k_is)
    (case wSIZES6 => k_is)
    (case aBook___init__ => k_is)
    (case iBook___init__ => k_is)
    (case lBook___init__ => k_is)
    (case cBook___init__ => k_is)
    (case kBook___init__ => k_is)
    (case aBook_cells => k_is)
    (case iBook_cells => k_is)
    (case lBook_cells => k_is)
    (case cBook_cells => k_is)
    (case kBook_cells => k_is)
    (case aBook_bodies => k_is)
    (case iBook_bodies => k_is)
    (case lBook_bodies => k_is)
    (case cBook_bodies => k_is)
    (case kBook_bodies => k_is)
    (case aBook___len__ => k_is)
    (case iBook___len__ => k_is)
    (case lBook___len__ => k_is)
    (case cBook___len__ => k_is)
    (case kBook___len__ => k_is)
    (case aFrame => k_is)
    (case pgFrame => k_is)
    (case hdFrame => k_is)
    (case poFrame => k_is)
    (case saFrame => k_is)
    (case mkFrame => k_is)
    (case kcFrame => k_is)
    (case nFrameword => k_is)
    (case nFrameblock => k_is)
    (case nFrametold => k_is)
    (case nFrameat => k_is)
    (case aFrame___init__ => k_is)
    (case iFrame___init__ => k_is)
    (case lFrame___init__ => k_is)
    (case cFrame___init__ => k_is)
    (case kFrame___init__ => k_is)
    (case aExecution => k_is)
    (case pgExecution => k_is)
    (case hdExecution => k_is)
    (case poExecution => k_is)
    (case saExecution => k_is)
    (case mkExecution => k_is)
    (case kcExecution => k_is)
    (case nExecution_bodies => k_is)
    (case nExecution_last => k_is)
    (case nExecution_bits => k_is)
    (case nExecution_taken => k_is)
    (case nExecution_frames => k_is)
    (case nExecution_begun => k_is)
    (case nExecutionsteps => k_is)
    (case nExecutionlength => k_is)
    (case nExecutionway => k_is)
    (case aExecution___init__ => k_is)
    (case iExecution___init__ => k_is)
    (case lExecution___init__ => k_is)
    (case cExecution___init__ => k_is)
    (case kExecution___init__ => k_is)
    (case aExecution__bit => k_is)
    (case iExecution__bit => k_is)
    (case lExecution__bit => k_is)
    (case cExecution__bit => k_is)
    (case kExecution__bit => k_is)
    (case aExecution__open => k_is)
    (case iExecution__open => k_is)
    (case lExecution__open => k_is)
    (case cExecution__open => k_is)
    (case kExecution__open => k_is)
    (case aExecution__begin => k_is)
    (case iExecution__begin => k_is)
    (case lExecution__begin => k_is)
    (case cExecution__begin => k_is)
    (case kExecution__begin => k_is)
    (case aExecution__advance => k_is)
    (case iExecution__advance => k_is)
    (case lExecution__advance => k_is)
    (case cExecution__advance => k_is)
    (case kExecution__advance => k_is)
    (case aExecution__execute => k_is)
    (case iExecution__execute => k_is)
    (case lExecution__execute => k_is)
    (case cExecution__execute => k_is)
    (case kExecution__execute => k_is)
    (case aExecution__command => k_is)
    (case iExecution__command => k_is)
    (case lExecution__command => k_is)
    (case cExecution__command => k_is)
    (case kExecution__command => k_is)
    (case aExecution__leave => k_is)
    (case iExecution__leave => k_is)
    (case lExecution__leave => k_is)
    (case cExecution__leave => k_is)
    (case kExecution__leave => k_is)
    (case aExecution__close => k_is)
    (case iExecution__close => k_is)
    (case lExecution__close => k_is)
    (case cExecution__close => k_is)
    (case kExecution__close => k_is)
    (case aExecution__end => k_is)
    (case iExecution__end => k_is)
    (case lExecution__end => k_is)
    (case cExecution__end => k_is)
    (case kExecution__end => k_is)
    (case aNoRun => k_is)
    (case xNoRun => k_is)
    (case rNoRun => first | rfl | decide +kernel | k_is)
    (case saNoRun => k_is)
    (case kNoRun => k_is)
    (case bNoRun => k_is)
    (case tNoRun => k_is)
    (case hdNoRun => k_is)
    (case xfNoRun => first | rfl | decide +kernel | k_is)
    (case nNoRun_index => k_is)
    (case aNoRun___init__ => k_is)
    (case iNoRun___init__ => k_is)
    (case lNoRun___init__ => k_is)
    (case cNoRun___init__ => k_is)
    (case kNoRun___init__ => k_is)
    (case tiNoRun => k_is)
    (case aNoProcedure => k_is)
    (case xNoProcedure => k_exc)
    (case kNoProcedure => k_is)
    (case bNoProcedure => k_is)
    (case tNoProcedure => k_is)
    (case hdNoProcedure => k_is)
    (case aNoBoard => k_is)
    (case xNoBoard => k_exc)
    (case kNoBoard => k_is)
    (case bNoBoard => k_is)
    (case tNoBoard => k_is)
    (case hdNoBoard => k_is)
    (case aNoNumber => k_is)
    (case xNoNumber => k_exc)
    (case kNoNumber => k_is)
    (case bNoNumber => k_is)
    (case tNoNumber => k_is)
    (case hdNoNumber => k_is)
    (case aBoardError => k_is)
    (case sNoProcedureNoProcedure => first | rfl | k_is)
    (case sNoRunNoProcedure => first | rfl | k_is)
    (case sNoRunNoRun => first | rfl | k_is)
    (case sNoBoardNoProcedure => first | rfl | k_is)
    (case sNoBoardNoRun => first | rfl | k_is)
    (case sNoBoardNoBoard => first | rfl | k_is)
    (case sNoNumberNoProcedure => first | rfl | k_is)
    (case sNoNumberNoRun => first | rfl | k_is)
    (case sNoNumberNoBoard => first | rfl | k_is)
    (case sNoNumberNoNumber => first | rfl | k_is)
    (case ais_board => k_is)
    (case lis_board => k_is)
    (case cis_board => k_is)
    (case kis_board => k_is)
    (case acheck_bits => k_is)
    (case lcheck_bits => k_is)
    (case ccheck_bits => k_is)
    (case kcheck_bits => k_is)
    (case aexecuted => k_is)
    (case lexecuted => k_is)
    (case cexecuted => k_is)
    (case kexecuted => k_is)
    (case abehind => k_is)
    (case lbehind => k_is)
    (case cbehind => k_is)
    (case kbehind => k_is)
    (case arun_of => k_is)
    (case lrun_of => k_is)
    (case crun_of => k_is)
    (case krun_of => k_is)
    (case agiven_board => k_is)
    (case lgiven_board => k_is)
    (case cgiven_board => k_is)
    (case kgiven_board => k_is)
    (case aplayed => k_is)
    (case lplayed => k_is)
    (case cplayed => k_is)
    (case kplayed => k_is)
    (case kwplayed_board => k_is)
    (case kwplayed_n => k_is)
    (case a_law_pool => k_is)
    (case l_law_pool => k_is)
    (case c_law_pool => k_is)
    (case k_law_pool => k_is)
    (case a_law_draw => k_is)
    (case l_law_draw => k_is)
    (case c_law_draw => k_is)
    (case k_law_draw => k_is)
    (case a_law_number => k_is)
    (case l_law_number => k_is)
    (case c_law_number => k_is)
    (case k_law_number => k_is)
    (case a_law_board => k_is)
    (case l_law_board => k_is)
    (case c_law_board => k_is)
    (case k_law_board => k_is)
    (case a_law_row => k_is)
    (case l_law_row => k_is)
    (case c_law_row => k_is)
    (case k_law_row => k_is)
    (case a_law_command => k_is)
    (case l_law_command => k_is)
    (case c_law_command => k_is)
    (case k_law_command => k_is)
    (case a_law_some_cells => k_is)
    (case l_law_some_cells => k_is)
    (case c_law_some_cells => k_is)
    (case k_law_some_cells => k_is)
    (case a_law_block => k_is)
    (case l_law_block => k_is)
    (case c_law_block => k_is)
    (case k_law_block => k_is)
    (case a_law_statement => k_is)
    (case l_law_statement => k_is)
    (case c_law_statement => k_is)
    (case k_law_statement => k_is)
    (case a_law_body => k_is)
    (case l_law_body => k_is)
    (case c_law_body => k_is)
    (case k_law_body => k_is)
    (case a_law_same => k_is)
    (case l_law_same => k_is)
    (case c_law_same => k_is)
    (case k_law_same => k_is)
    (case a_law_bit => k_is)
    (case l_law_bit => k_is)
    (case c_law_bit => k_is)
    (case k_law_bit => k_is)
    (case a_law_value => k_is)
    (case l_law_value => k_is)
    (case c_law_value => k_is)
    (case k_law_value => k_is)
    (case a_law_execute => k_is)
    (case l_law_execute => k_is)
    (case c_law_execute => k_is)
    (case k_law_execute => k_is)
    (case a_law_execute_one => k_is)
    (case l_law_execute_one => k_is)
    (case c_law_execute_one => k_is)
    (case k_law_execute_one => k_is)
    (case a_law_execute_keep => k_is)
    (case l_law_execute_keep => k_is)
    (case c_law_execute_keep => k_is)
    (case k_law_execute_keep => k_is)
    (case a_law_execute_again => k_is)
    (case l_law_execute_again => k_is)
    (case c_law_execute_again => k_is)
    (case k_law_execute_again => k_is)
    (case a_law_execute_call => k_is)
    (case l_law_execute_call => k_is)
    (case c_law_execute_call => k_is)
    (case k_law_execute_call => k_is)
    (case a_law_execute_procedure => k_is)
    (case l_law_execute_procedure => k_is)
    (case c_law_execute_procedure => k_is)
    (case k_law_execute_procedure => k_is)
    (case a_law_played => k_is)
    (case l_law_played => k_is)
    (case c_law_played => k_is)
    (case k_law_played => k_is)
    (case a_law_bits => k_is)
    (case l_law_bits => k_is)
    (case c_law_bits => k_is)
    (case k_law_bits => k_is)
    (case a_law_blocks => k_is)
    (case l_law_blocks => k_is)
    (case c_law_blocks => k_is)
    (case k_law_blocks => k_is)
    (case a_law_endless => k_is)
    (case l_law_endless => k_is)
    (case c_law_endless => k_is)
    (case k_law_endless => k_is)
    (case a_law_asked => k_is)
    (case l_law_asked => k_is)
    (case c_law_asked => k_is)
    (case k_law_asked => k_is)
    (case alaw => k_is)
    (case llaw => k_is)
    (case claw => k_is)
    (case klaw => k_is)
    (case y_int => k_is)
    (case y_len => k_is)
    (case y_list => k_is)
    (case y_tuple => k_is)
    (case y_range => k_is)
    (case y_isinstance => k_is)
    (case y_bool => k_is)
    (case y_str => k_is)
    (case y_dict => k_is)
    (case y_all => k_is)
    (case y_zip => k_is)
    (case y_enumerate => k_is)
    (case y_reversed => k_is)
    (case y_sum => k_is)
