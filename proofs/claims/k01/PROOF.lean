import PyProof.Rows.All
import Wide.All
import OpenK.AllK
import Wide.FinOn
import HandS.ForMost
import HandS.Wide
import HandS.IsInst
import HandS.Codes
import HandS.Evl
import HandS.Walk
import HandS.Zip
import PySem.Challenge.RW_sharedboard_k01_matrices
set_option Elab.async false
set_option linter.all false
set_option maxRecDepth 100000
set_option maxHeartbeats 4000000
namespace My
open PySem PySem.Spec PyProof.Rows L2 Evl
open C8 (Cal pe_c)
def topS (i : Nat) : Stmt := PySem.Challenge.pw_sharedboard_k01_matrices.main.body.getD i (.Pass ⟨0, 0, 0, 0⟩)
abbrev s_law_pool : Stmt := topS 4
theorem sc_law_pool : FnScope ["script", "seed", "cell"] ["script"] (defScope s_law_pool) := ⟨rfl, rfl, rfl, by decide +kernel, rfl, by decide +kernel, by decide +kernel⟩
abbrev s_law_draw : Stmt := topS 5
theorem sc_law_draw : FnScope ["pool", "many", "number", "cell", "digit"] ["pool", "many"] (defScope s_law_draw) := ⟨rfl, rfl, rfl, by decide +kernel, rfl, by decide +kernel, by decide +kernel⟩
/-! ### the pool of a law's draws -/
/-- all but the object at p is as it was -/
def Oth (p : Addr) (H H' : Hp) : Prop := ∀ a o, a ≠ p → H a = some o → H' a = some o
theorem Oth.refl (p : Addr) (H : Hp) : Oth p H H := fun _ _ _ h => h
theorem Oth.trans {p : Addr} {H H1 H2 : Hp} (a : Oth p H H1) (b : Oth p H1 H2) : Oth p H H2 := fun c o n h => b c o n (a c o n h)
theorem Oth.of {p : Addr} {H H1 : Hp} (a : Ex H H1) : Oth p H H1 := fun c o _ h => a c o h
theorem Oth.upd {p : Addr} {H : Hp} {o : HO} : Oth p H (upd H p o) := fun c u n h => by rw [upd_ne n]; exact h
structure PoolAt (H : Hp) (p q : Addr) (i b t s : Int) (cs : List Int) : Prop where
  hp : H p = some (.lst [.ref q, .int i, .int b, .int t, .int s])
  hq : H q = some (.lst (cs.map V.int))
  short : cs.length ≤ 63
  i0 : 0 ≤ i
  b0 : 0 ≤ b
def Pool (H : Hp) (p q : Addr) : Prop := ∃ i b t s cs, PoolAt H p q i b t s cs
theorem PoolAt.ne {H : Hp} {p q : Addr} {i b t s : Int} {cs : List Int} (x : PoolAt H p q i b t s cs) : q ≠ p := ne_of x.hq x.hp fun e => by
  have e1 := HO.lst.inj e
  cases cs with
  | nil => cases e1
  | cons c r => cases e1
theorem PoolAt.ex {H H' : Hp} {p q : Addr} {i b t s : Int} {cs : List Int} (x : PoolAt H p q i b t s cs) (e : Ex H H') : PoolAt H' p q i b t s cs :=
  ⟨e _ _ x.hp, e _ _ x.hq, x.short, x.i0, x.b0⟩
theorem Pool.ex {H H' : Hp} {p q : Addr} (x : Pool H p q) (e : Ex H H') : Pool H' p q := by
  obtain ⟨i, b, t, s, cs, x⟩ := x
  exact ⟨i, b, t, s, cs, x.ex e⟩
theorem Pool.ne {H : Hp} {p q : Addr} (x : Pool H p q) : q ≠ p := by
  obtain ⟨i, b, t, s, cs, x⟩ := x
  exact x.ne
/-- a list of ints is not the pool -/
theorem Pool.neI {H : Hp} {p q a : Addr} {ns : List Int} (x : Pool H p q) (h : H a = some (.lst (ns.map V.int))) : a ≠ p := by
  obtain ⟨i, b, t, s, cs, x⟩ := x
  refine ne_of h x.hp fun e => ?_
  have e1 := HO.lst.inj e
  cases ns with
  | nil => cases e1
  | cons c r => cases e1
/-- an object that is neither may change -/
theorem Pool.upd {H : Hp} {p q a : Addr} {o : HO} (x : Pool H p q) (h1 : a ≠ p) (h2 : a ≠ q) : Pool (upd H a o) p q := by
  obtain ⟨i, b, t, s, cs, x⟩ := x
  exact ⟨i, b, t, s, cs, by rw [upd_ne h1.symm]; exact x.hp, by rw [upd_ne h2.symm]; exact x.hq, x.short, x.i0, x.b0⟩
theorem Pool.isP {H : Hp} {p q : Addr} (x : Pool H p q) : ∃ o, H p = some o := by
  obtain ⟨i, b, t, s, cs, x⟩ := x
  exact ⟨_, x.hp⟩
theorem Pool.isQ {H : Hp} {p q : Addr} (x : Pool H p q) : ∃ o, H q = some o := by
  obtain ⟨i, b, t, s, cs, x⟩ := x
  exact ⟨_, x.hq⟩
theorem PoolAt.put {H H' : Hp} {p q : Addr} {i b t s i' b' t' s' : Int} {cs : List Int} (x : PoolAt H p q i b t s cs) (e : Ex H H') (hi : 0 ≤ i') (hb : 0 ≤ b') :
    PoolAt (upd H' p (.lst [.ref q, .int i', .int b', .int t', .int s'])) p q i' b' t' s' cs :=
  ⟨upd_same, by rw [upd_ne x.ne]; exact e _ _ x.hq, x.short, hi, hb⟩
def spPool (K : PySem.W.Frag) : Sp := fun vs H Q _ => ∃ (a : Addr) (ns : List Int), vs = [.ref a] ∧ SqL K H a (ns.map V.int) ∧ ∀ p q H', H p = none → H q = none → Ex H H' → Pool H' p q → Q (.ref p) H'
def spDraw : Sp := fun vs H Q _ => ∃ (p q : Addr) (m : Int), vs = [.ref p, .int m] ∧ 0 < m ∧ m.natAbs < 2 ^ 200 ∧ Pool H p q ∧ ∀ r H', 0 ≤ r → r < m → Oth p H H' → Pool H' p q → Q (.int r) H'
theorem cut63 (xs : List V) : cutV xs none (some 63) = xs.take 63 := by
  unfold cutV
  rw [HT.sIx_none, show HT.sIx xs.length xs.length (some 63) = min 63 xs.length from HT.sIx_nat xs.length xs.length 63]
  show (xs.drop 0).take (min 63 xs.length - 0) = _
  rw [List.drop_zero, Nat.sub_zero, List.take_eq_take_iff]
  omega
section
variable {P : Program} {w : World} {K : PySem.W.Frag} {mg : Str → Option Value} {base : Heap}
theorem ok_pool {f : Addr} {fd : FuncData} {k : Nat} (F : Fun K "_law_pool" "_law_pool" s_law_pool f fd) (z_int : mg "int" = none) (z_list : mg "list" = none) : FnOk P w K mg base CX0 (k + 1) f fd ["script"] (spPool K) := by
  have sc := sc_law_pool
  refine F.ok sc (fun vs H Q E h => ?_) (fun cdv A outer s H vs Q E hr h => ?_)
  · obtain ⟨a, ns, rfl, _⟩ := h
    rfl
  · obtain ⟨a, ns, rfl, hS, q⟩ := h
    refine ⟨_, (pss_cons (ps_set (i := 1) sc.nd rfl (by first | exact Or.inl rfl | exact Or.inr rfl) pe_int)
      (pss_cons (ps_for PassesOwn.never rfl (pi_list (pe_slice sl_list (pv 0) po_none (po_some pe_int))) (pg_name (i := 2) sc.nd rfl (by first | exact Or.inl rfl | exact Or.inr rfl))
      (pss_one (ps_set (i := 1) sc.nd rfl (by first | exact Or.inl rfl | exact Or.inr rfl) (pe_op op_modN (pe_callTy call_int1 (by rfl) z_int (by decide +kernel) (pa_cons (pe_op op_add (pe_op op_add (pe_op op_mul (pv 1) pe_int) (pv 2)) pe_int) pa_nil)) pe_int))))
      (pss_one (ps_ret (pe_lst (pa_cons (pe_callTy call_list_of (by rfl) z_list (by decide +kernel) (pa_cons (pe_slice sl_list (pv 0) po_none (po_some pe_int)) pa_nil)) (pa_cons pe_int (pa_cons pe_int (pa_cons pe_int (pa_cons (pv 1) pa_nil)))))))))), ?_⟩
    -- for cell in script[:63]
    refine ⟨.ref a, rfl, 63, rfl, a, ns.map V.int, rfl, hS, fun c nc => ?_⟩
    rw [cut63, ← List.map_take]
    refine ⟨c, rfl, ⟨_, .inl (.inl upd_same)⟩, for_list (xs := (ns.take 63).map V.int)
      (fun i σ H' => ∃ (n : Int) (y : Option V), σ = [some (.ref a), some (.int n), y] ∧ Ex H H' ∧ H' c = some (.lst ((ns.take 63).map V.int))) ⟨17, none, rfl, Ex.new nc, upd_same⟩ (fun i σ H' hi p => ?_) (fun i x σ H' hi p => ?_) (fun σ H' p => ?_)⟩
    · obtain ⟨n, y, rfl, e, hc⟩ := p
      exact .inl (.inl hc)
    · obtain ⟨n, y, rfl, e, hc⟩ := p
      rw [List.getElem?_map, Option.map_eq_some_iff] at hi
      obtain ⟨z, _, rfl⟩ := hi
      refine ⟨.int n, rfl, n, 43, rfl, rfl, .inr ⟨by decide, by decide⟩, .int z, rfl, n * 43, z, rfl, rfl, n * 43 + z, 3, rfl, rfl, .inl ⟨_, rfl, _, 2147483629, rfl, rfl, show (2147483629 : Int) ≠ 0 by decide, ?_⟩⟩
      exact ⟨_, some (.int z), rfl, e, hc⟩
    · obtain ⟨n, y, rfl, e, hc⟩ := p
      refine ⟨.ref a, rfl, 63, rfl, a, ns.map V.int, rfl, ex_l e hS, fun c2 nc2 => ?_⟩
      rw [cut63, ← List.map_take]
      refine ⟨c2, _, rfl, .inl (.inl (.inl upd_same)), fun l nl => ?_⟩
      refine ⟨.int n, rfl, Nat.le_of_ble_eq_true rfl, fun p np => ?_⟩
      have e2 := (e.trans (Ex.new nc2)).trans (Ex.new (o := .lst ((ns.take 63).map V.int)) nl)
      have e3 := e2.trans (Ex.new (o := .lst [.ref l, .int 0, .int 0, .int 0, .int n]) np)
      refine q p l _ (fresh_back e2 np) (fresh_back (e.trans (Ex.new nc2)) nl) e3 ⟨0, 0, 0, n, ns.take 63, upd_same, ?_, ?_, by decide, by decide⟩
      · rw [upd_ne (ne_of_none upd_same np)]
        exact upd_same
      · rw [List.length_take]; omega

theorem ev_ix0 {σ : L2.St} {H : Hp} {p : Addr} {xs : List V} {j : Nat} {v : V} (hs : σ[0]? = some (some (.ref p))) (h : H p = some (.lst xs)) (hx : xs[j]? = some v) : Ev (tOp (rIxL K) (tVar 0) (tC (.int (j : Int)))) σ H v :=
  ev_op (ev_var hs) ev_c (rv_ixL (sq_of h) (atI_nat hx))
theorem ev_int1 {σ : L2.St} {H : Hp} {te : TE} {n : Int} (h : Ev te σ H (.int n)) : Ev (tCB (fun xs H Q => (∃ i, xs = [.int i] ∧ Q (.int i) H) ∨ ∃ k, xs = [.bl k] ∧ Q (.int (if k then 1 else 0)) H) (tCons te tNil)) σ H (.int n) :=
  ev_cb (ea_cons h ea_nil) fun H1 _ _ q => .inl ⟨n, rfl, q H1 (Ex.refl H1)⟩
theorem fmod_in {a m : Int} (h : 0 < m) : 0 ≤ a.fmod m ∧ a.fmod m < m := by
  rw [Int.fmod_eq_emod_of_nonneg a (by omega)]
  exact ⟨Int.emod_nonneg a (by omega), Int.emod_lt_of_pos a h⟩
theorem ok_draw {f : Addr} {fd : FuncData} {k : Nat} (F : Fun K "_law_draw" "_law_draw" s_law_draw f fd) (z_int : mg "int" = none) (z_len : mg "len" = none) : FnOk P w K mg base CX0 (k + 1) f fd ["pool", "many"] spDraw := by
  have sc := sc_law_draw
  refine F.ok sc (fun vs H Q E h => ?_) (fun cdv A outer s H vs Q E hr h => ?_)
  · obtain ⟨p, q0, m, rfl, _⟩ := h
    rfl
  · obtain ⟨p, q0, m, rfl, hm, hb, ⟨i, b, t, s, cs, x⟩, q⟩ := h
    refine ⟨_, (pss_cons (ps_asg (pe_op op_add (pe_ix ix_list (pv 0) pe_int (fun _ _ => rfl)) pe_int) (pg_sub (pv 0) pe_int set_list))
      (Evl.pss_cut (ps_if (PW.pt (pw_and (pt_cmpR op_eq (pe_ix ix_list (pv 0) pe_int (fun _ _ => rfl)) pe_int (nomark _)) (pw_and1 (pt_cmpR op_lt (pe_ix ix_list (pv 0) pe_int (fun _ _ => rfl)) (pe_callB call_len_seq (by rfl) z_len (by decide +kernel) (pa_cons (pe_ix ix_list (pv 0) pe_int (fun _ _ => rfl)) pa_nil)) (nomark _)))))
      (pss_cons (ps_set (i := 3) sc.nd rfl (by first | exact Or.inl rfl | exact Or.inr rfl) (pe_ix ix_list (pe_ix ix_list (pv 0) pe_int (fun _ _ => rfl)) (pe_ix ix_list (pv 0) pe_int (fun _ _ => rfl)) (fun _ _ => rfl)))
      (pss_cons (ps_asg (pe_op op_add (pe_ix ix_list (pv 0) pe_int (fun _ _ => rfl)) pe_int) (pg_sub (pv 0) pe_int set_list))
      (pss_one (ps_if (pt_cmpR op_ge (pv 3) (pe_op op_pow pe_int pe_int) (nomark _))
      (pss_one (ps_asg (pv 3) (pg_sub (pv 0) pe_int set_list)))
      (pss_one (ps_asg (pe_op op_modN (pe_callTy call_int1 (by rfl) z_int (by decide +kernel) (pa_cons (pe_op op_add (pe_op op_add (pe_op op_mul (pe_ix ix_list (pv 0) pe_int (fun _ _ => rfl)) pe_int) (pv 3)) pe_int) pa_nil)) pe_int) (pg_sub (pv 0) pe_int set_list)))))))
      pss_nil)
      (pss_cons (ps_if (pt_cmpR op_gt (pe_ix ix_list (pv 0) pe_int (fun _ _ => rfl)) pe_int (nomark _))
      (pss_cons (ps_set (i := 4) sc.nd rfl (by first | exact Or.inl rfl | exact Or.inr rfl) (pe_op op_modN (pe_callTy call_int1 (by rfl) z_int (by decide +kernel) (pa_cons (pe_ix ix_list (pv 0) pe_int (fun _ _ => rfl)) pa_nil)) (pv 1)))
      (pss_cons (ps_asg (pe_op op_fdivW (pe_ix ix_list (pv 0) pe_int (fun _ _ => rfl)) (pv 1)) (pg_sub (pv 0) pe_int set_list))
      (pss_one (ps_ret (pv 4)))))
      pss_nil)
      (pss_cons (ps_set (i := 2) sc.nd rfl (by first | exact Or.inl rfl | exact Or.inr rfl) (pe_op op_modN (pe_callTy call_int1 (by rfl) z_int (by decide +kernel) (pa_cons (pe_op op_add (pe_op op_add (pe_op op_mul (pe_ix ix_list (pv 0) pe_int (fun _ _ => rfl)) pe_int) (pe_op op_mul (pe_ix ix_list (pv 0) pe_int (fun _ _ => rfl)) pe_int)) pe_int) pa_nil)) pe_int))
      (pss_cons (ps_set (i := 2) sc.nd rfl (by first | exact Or.inl rfl | exact Or.inr rfl) (pe_op op_modN (pe_callTy call_int1 (by rfl) z_int (by decide +kernel) (pa_cons (pe_op op_mul (pv 2) (pe_op op_add (pe_op op_fdivN (pv 2) pe_int) pe_int)) pa_nil)) pe_int))
      (pss_cons (ps_set (i := 2) sc.nd rfl (by first | exact Or.inl rfl | exact Or.inr rfl) (pe_op op_modN (pe_callTy call_int1 (by rfl) z_int (by decide +kernel) (pa_cons (pe_op op_mul (pv 2) (pe_op op_add (pe_op op_fdivN (pv 2) pe_int) pe_int)) pa_nil)) pe_int))
      (pss_one (ps_ret (pe_op op_modN (pe_callTy call_int1 (by rfl) z_int (by decide +kernel) (pa_cons (pe_op op_fdivN (pv 2) pe_int) pa_nil)) (pv 1)))))))))), ?_⟩
    have hm0 : m ≠ 0 := by omega
    -- pool[3] = pool[3] + 1
    refine q_setL (j := 3) x.hp (ev_op (ev_ix0 (j := 3) rfl x.hp rfl) ev_c rv_I0) (ev_var rfl) ev_c (by show _ < 5; decide) fun H1 e1 => ?_
    have x2 : PoolAt (upd H1 p (.lst [.ref q0, .int i, .int b, .int (t + 1), .int s])) p q0 i b (t + 1) s cs := x.put e1 x.i0 x.b0
    have o2 : Oth p H (upd H1 p (.lst [.ref q0, .int i, .int b, .int (t + 1), .int s])) := (Oth.of e1).trans Oth.upd
    -- if pool[2] == 0 and ..
    refine ⟨fun σ' H' => ∃ (c : Option V) (i' b' t' s' : Int), σ' = [some (.ref p), some (.int m), none, c, none] ∧ Oth p H H' ∧ PoolAt H' p q0 i' b' t' s' cs, ?_, ?_⟩
    · refine s_when (et_and (et_test (ev_op (ev_ix0 (j := 2) rfl x2.hp rfl) ev_c (rv_eq rfl))) fun hb => et_test (ev_op (ev_ix0 (j := 1) rfl x2.hp rfl) (ev_len (ev_ix0 (j := 0) rfl x2.hp rfl) (sq_of x2.hq)) rv_I0)) (fun hb H3 e3 => ?_) (fun hb H3 e3 => ⟨none, i, b, t + 1, s, rfl, o2.trans (.of e3), x2.ex e3⟩)
      have x3 := x2.ex e3
      have o3 : Oth p H H3 := o2.trans (.of e3)
      have hi : i < ((cs.map V.int).length : Int) := of_decide_eq_true (Bool.and_eq_true _ _ ▸ hb).2
      rw [List.length_map] at hi
      have hi2 : i.toNat < cs.length := by have := x.i0; omega
      refine q_asg (v := .int cs[i.toNat]) (ev_op (ev_ix0 (j := 0) rfl x3.hp rfl) (ev_ix0 (j := 1) rfl x3.hp rfl) (rv_ixL (sq_of x3.hq) (at_of (j := i.toNat) (by have := x.i0; omega) (by rw [List.getElem?_map, List.getElem?_eq_getElem hi2]; rfl)))) fun H4 e4 => ?_
      have x4 := x3.ex e4
      refine q_setL (j := 1) x4.hp (ev_op (ev_ix0 (j := 1) rfl x4.hp rfl) ev_c rv_I0) (ev_var rfl) ev_c (by show _ < 5; decide) fun H5 e5 => ?_
      have x5 : PoolAt (upd H5 p (.lst [.ref q0, .int (i + 1), .int b, .int (t + 1), .int s])) p q0 (i + 1) b (t + 1) s cs := x4.put e5 (by have := x.i0; omega) x.b0
      have o5 : Oth p H (upd H5 p (.lst [.ref q0, .int (i + 1), .int b, .int (t + 1), .int s])) := ((o3.trans (.of e4)).trans (.of e5)).trans Oth.upd
      refine s_if (et_test (ev_op (ev_var rfl) (ev_op ev_c ev_c (rv_I ⟨by decide, by decide, by decide⟩)) rv_I0)) (fun hc H6 e6 => ?_) (fun hc H6 e6 => ?_)
      · have x6 := x5.ex e6
        have hz : (0 : Int) ≤ cs[i.toNat] := Int.le_trans (by decide) (of_decide_eq_true hc)
        refine s_setL (j := 2) x6.hp (ev_var rfl) (ev_var rfl) ev_c (by show _ < 5; decide) fun H7 e7 => ?_
        exact ⟨_, i + 1, cs[i.toNat], t + 1, s, rfl, ((o5.trans (.of e6)).trans (.of e7)).trans Oth.upd, x6.put e7 x6.i0 hz⟩
      · have x6 := x5.ex e6
        refine s_setL (j := 4) x6.hp (ev_op (ev_int1 (ev_op (ev_op (ev_op (ev_ix0 (j := 4) rfl x6.hp rfl) ev_c (rv_I (.inr ⟨by decide, by decide⟩))) (ev_var rfl) rv_I0) ev_c rv_I0)) ev_c (rv_I (by decide +revert))) (ev_var rfl) ev_c (by show _ < 5; decide) fun H7 e7 => ?_
        exact ⟨_, i + 1, b, t + 1, _, rfl, ((o5.trans (.of e6)).trans (.of e7)).trans Oth.upd, x6.put e7 x6.i0 x6.b0⟩
    · rintro σ' H' ⟨c, i, b, t, s, rfl, o, x⟩
      refine q_when (et_test (ev_op (ev_ix0 (j := 2) rfl x.hp rfl) ev_c rv_I0)) (fun hc H2 e2 => ?_) (fun hc H2 e2 => ?_)
      · have x2 := x.ex e2
        refine q_asg (ev_op (ev_int1 (ev_ix0 (j := 2) rfl x2.hp rfl)) (ev_var rfl) (rv_I hm0)) fun H3 e3 => ?_
        have x3 := x2.ex e3
        refine q_setL (j := 2) x3.hp (ev_op (ev_ix0 (j := 2) rfl x3.hp rfl) (ev_var rfl) (rv_I (wide_div hm hb (by decide) (by decide)))) (ev_var rfl) ev_c (by show _ < 5; decide) fun H4 e4 => ?_
        refine s_ret (ev_var rfl) fun H5 e5 => ?_
        have x4 : PoolAt (upd H4 p (.lst [.ref q0, .int i, .int (b / m), .int t, .int s])) p q0 i (b / m) t s cs := x3.put e4 x3.i0 (Int.ediv_nonneg x3.b0 (by omega))
        exact q _ _ (fmod_in hm).1 (fmod_in hm).2 ((((o.trans (.of e2)).trans (.of e3)).trans (.of e4)).trans (Oth.upd.trans (.of e5))) ⟨_, _, _, _, _, x4.ex e5⟩
      · have x2 := x.ex e2
        refine q_asg (ev_op (ev_int1 (ev_op (ev_op (ev_op (ev_ix0 (j := 4) rfl x2.hp rfl) ev_c (rv_I (.inr ⟨by decide, by decide⟩))) (ev_op (ev_ix0 (j := 3) rfl x2.hp rfl) ev_c (rv_I (.inr ⟨by decide, by decide⟩))) rv_I0) ev_c rv_I0)) ev_c (rv_I (by decide +revert))) fun H3 e3 => ?_
        have n1 := @fmod_in (s * 69621 + t * 130363 + 12289) 2147483647 (by decide)
        generalize (s * 69621 + t * 130363 + 12289).fmod 2147483647 = n at n1 ⊢
        refine q_asg (ev_op (ev_int1 (ev_op (ev_var rfl) (ev_op (ev_op (ev_var rfl) ev_c (rv_I ⟨by decide, by decide⟩)) ev_c rv_I0) (rv_I (.inl ⟨by omega, by omega⟩)))) ev_c (rv_I (by decide +revert))) fun H4 e4 => ?_
        have n2 := @fmod_in (n * (n.fdiv 1013 + 48271)) 2147483647 (by decide)
        generalize (n * (n.fdiv 1013 + 48271)).fmod 2147483647 = n' at n2 ⊢
        refine q_asg (ev_op (ev_int1 (ev_op (ev_var rfl) (ev_op (ev_op (ev_var rfl) ev_c (rv_I ⟨by decide, by decide⟩)) ev_c rv_I0) (rv_I (.inl ⟨by omega, by omega⟩)))) ev_c (rv_I (by decide +revert))) fun H5 e5 => ?_
        refine s_ret (ev_op (ev_int1 (ev_op (ev_var rfl) ev_c (rv_I ⟨by decide, by decide⟩))) (ev_var rfl) (rv_I hm0)) fun H6 e6 => ?_
        have e := (((e2.trans e3).trans e4).trans e5).trans e6
        exact q _ _ (fmod_in hm).1 (fmod_in hm).2 (o.trans (.of e)) ⟨_, _, _, _, _, x.ex e⟩
end
abbrev s_law_number : Stmt := topS 6
theorem sc_law_number : FnScope ["pool"] ["pool"] (defScope s_law_number) := ⟨rfl, rfl, rfl, by decide +kernel, rfl, by decide +kernel, by decide +kernel⟩
section
variable {P : Program} {w : World} {K : PySem.W.Frag} {mg : Str → Option Value} {base : Heap}
def spNumber : Sp := fun vs H Q _ => ∃ (p q : Addr), vs = [.ref p] ∧ Pool H p q ∧ ∀ r H', r.natAbs < 2 ^ 170 → Oth p H H' → Pool H' p q → Q (.int r) H'
theorem ok_number {f : Addr} {fd : FuncData} {k : Nat} (F : Fun K "_law_number" "_law_number" s_law_number f fd) (C_law_draw : Cal P w K mg base 1 "_law_draw" spDraw []) (hk : 1 ≤ k) : FnOk P w K mg base CX0 (k + 1) f fd ["pool"] spNumber := by
  have sc := sc_law_number
  refine F.ok sc (fun vs H Q E h => ?_) (fun cdv A outer s H vs Q E hr h => ?_)
  · obtain ⟨p, q0, rfl, _⟩ := h
    rfl
  · obtain ⟨p, q0, rfl, x, q⟩ := h
    refine ⟨_, (pss_cons (ps_if (pt_cmpR op_eq (pe_c C_law_draw hr (by omega) (by rfl) (pa_cons (pv 0) (pa_cons pe_int pa_nil))) pe_int (nomark _))
      (pss_one (ps_ret (pe_op op_sub (pe_c C_law_draw hr (by omega) (by rfl) (pa_cons (pv 0) (pa_cons (pe_op op_mul pe_int (pe_op op_pow pe_int pe_int)) pa_nil))) (pe_op op_pow pe_int pe_int))))
      pss_nil)
      (pss_one (ps_ret (pe_op op_sub (pe_c C_law_draw hr (by omega) (by rfl) (pa_cons (pv 0) (pa_cons pe_int pa_nil))) pe_int)))), ?_⟩
    refine ⟨.ref p, rfl, p, q0, 5, rfl, by decide, by decide, x, fun r H1 h0 h1 o1 x1 => ?_⟩
    refine ⟨rfl, _, rfl, ite2 (fun _ => ?_) (fun _ => ?_)⟩
    · refine ⟨.ref p, rfl, 10, 49, rfl, rfl, ⟨by decide, by decide, by decide⟩, 2, _, rfl, rfl, .inl ⟨by decide, by decide⟩, p, q0, _, rfl, by decide, by decide, x1, fun r H2 h0 h1 o2 x2 => ?_⟩
      refine ⟨10, 49, rfl, rfl, ⟨by decide, by decide, by decide⟩, r, _, rfl, rfl, q _ _ ?_ (o1.trans o2) x2⟩
      have e : (2 * 10 ^ (49 : Int).toNat : Int) = 20000000000000000000000000000000000000000000000000 := by decide
      have e2 : (10 ^ (49 : Int).toNat : Int) = 10000000000000000000000000000000000000000000000000 := by decide
      have e3 : (2 ^ 170 : Nat) = 1496577676626844588240573268701473812127674924007424 := by decide
      rw [e] at h1
      rw [e2, e3]
      omega
    · refine ⟨.ref p, rfl, p, q0, 11, rfl, by decide, by decide, x1, fun r H2 h0 h1 o2 x2 => ?_⟩
      refine ⟨r, 5, rfl, rfl, q _ _ ?_ (o1.trans o2) x2⟩
      have e3 : (2 ^ 170 : Nat) = 1496577676626844588240573268701473812127674924007424 := by decide
      rw [e3]
      omega
end
/-! ### what draws -/
section
variable {K : PySem.W.Frag} {σ : L2.St} {H H' : Hp} {te : TE} {p q : Addr}
/-- te draws, and gives an int that is good -/
def Dw (p q : Addr) (te : TE) (σ : L2.St) (good : Int → Prop) : Prop := ∀ H1, Pool H1 p q → ∀ Q : VK, (∀ z H2, good z → Oth p H1 H2 → Pool H2 p q → Q (.int z) H2) → te σ H1 Q
/-- [e for k in range(n)] -/
theorem dw_rng {tr : TA} {j : Nat} {vs : List Nat} {n : Nat} {good : Int → Prop} (h : ∀ H1, EvA tr σ H1 [.int (n : Int)]) (hn : n ≤ 40000) (hw : ∀ x, wipe ((wipe σ vs).set j (some x)) vs = wipe σ vs)
    (he : ∀ i, i < n → Dw p q te ((wipe σ vs).set j (some (.int (i : Int)))) good) (x : Pool H p q) {Q : VK}
    (k : ∀ (ns : List Int) (D : Addr) (H2 : Hp), ns.length = n → (∀ z ∈ ns, good z) → H D = none → Oth p H H2 → Pool H2 p q → H2 D = some (.lst (ns.map V.int)) → Q (.ref D) H2) : tLc (iRng1 tr) (gName j) tYes te vs σ H Q :=
  h H H (Ex.refl H) _ fun H1 e1 => ⟨(n : Int), rfl, by omega, by omega, fun D hD => by
  have x1 := x.ex e1
  have hDp : D ≠ p := fun z => by
    obtain ⟨o, ho⟩ := x1.isP
    rw [z, ho] at hD; cases hD
  have hDq : D ≠ q := fun z => by
    obtain ⟨o, ho⟩ := x1.isQ
    rw [z, ho] at hD; cases hD
  refine lc_range (lo := 0) (n := ((n : Int) - 0).toNat) (fun i H' => ∃ ns : List Int, ns.length = i ∧ (∀ z ∈ ns, good z) ∧ Oth p H1 H' ∧ Pool H' p q ∧ H' D = some (.lst (ns.map V.int))) ⟨[], rfl, fun _ h => (nomatch h), .of (Ex.new hD), x1.ex (Ex.new hD), upd_same⟩ (fun i H' hi hP => ?_) (fun H' hP => ?_)
  · obtain ⟨ns, rfl, hg, o, x', hd⟩ := hP
    have e0 : (0 : Int) + (ns.length : Int) = (ns.length : Int) := Int.zero_add _
    show wipe ((wipe σ vs).set j (some (.int ((0 : Int) + (ns.length : Int))))) vs = wipe σ vs ∧ _
    refine ⟨hw _, ?_⟩
    rw [e0]
    show te _ _ _
    refine he _ (by omega) H' x' _ fun z H2 gz o2 x2 => ⟨_, o2 _ _ hDp hd, ?_, ns ++ [z], by simp, fun y hy => ?_, fun c u nc hc => ?_, x2.upd hDp hDq, ?_⟩
    · rw [List.length_map]; exact sz_lt (by omega)
    · rcases List.mem_append.mp hy with hy | hy
      · exact hg y hy
      · rw [List.mem_singleton.mp hy]; exact gz
    · rw [upd_ne (ne_of_none hc hD)]
      exact o2 _ _ nc (o _ _ nc hc)
    · rw [upd_same, List.map_append]; rfl
  · obtain ⟨ns, hl, hg, o, x', hd⟩ := hP
    exact k ns D H' (by omega) hg (fresh_back e1 hD) ((Oth.of e1).trans o) x' hd⟩
end
/-! ### data: what may stand in lists and tuples -/
mutual
/-- equal, kind for kind (actual, due) -/
def sm : PyData → PyData → Bool
  | .none, .none => true
  | .bool a, .bool b => decide (a = b)
  | .int a, .int b => decide (a = b)
  | .str a, .str b => decide (a = b)
  | .list xs, .list ys => smAll xs ys
  | .tuple xs, .tuple ys => smAll xs ys
  | _, _ => false
def smAll : List PyData → List PyData → Bool
  | [], [] => true
  | x :: xs, y :: ys => sm x y && smAll xs ys
  | _, _ => false
end
mutual
/-- at most n levels, no list longer than 10000, no dict -/
def fit : PyData → Nat → Bool
  | .list xs, n => match n with
    | 0 => false
    | m + 1 => decide (xs.length ≤ 10000) && fitAll xs m
  | .tuple xs, n => match n with
    | 0 => false
    | m + 1 => decide (xs.length ≤ 10000) && fitAll xs m
  | .dict _, _ => false
  | _, _ => true
def fitAll : List PyData → Nat → Bool
  | [], _ => true
  | x :: xs, n => fit x n && fitAll xs n
end
mutual
theorem sm_refl : ∀ (d : PyData) (n : Nat), fit d n = true → sm d d = true
  | .none, _, _ => by simp [sm]
  | .bool _, _, _ => by simp [sm]
  | .int _, _, _ => by simp [sm]
  | .str _, _, _ => by simp [sm]
  | .list xs, 0, h => by simp [fit] at h
  | .list xs, n + 1, h => by
    rw [fit, Bool.and_eq_true] at h
    rw [sm]
    exact smAll_refl xs n h.2
  | .tuple xs, 0, h => by simp [fit] at h
  | .tuple xs, n + 1, h => by
    rw [fit, Bool.and_eq_true] at h
    rw [sm]
    exact smAll_refl xs n h.2
  | .dict _, _, h => by simp [fit] at h
theorem smAll_refl : ∀ (xs : List PyData) (n : Nat), fitAll xs n = true → smAll xs xs = true
  | [], _, _ => by simp [smAll]
  | x :: xs, n, h => by
    rw [fitAll, Bool.and_eq_true] at h
    rw [smAll, sm_refl x n h.1, smAll_refl xs n h.2]
    rfl
end
mutual
theorem sm_eq : ∀ (d e : PyData), sm d e = true → d = e
  | .none, e, h => by cases e <;> simp_all [sm]
  | .bool _, e, h => by cases e <;> simp_all [sm]
  | .int _, e, h => by cases e <;> simp_all [sm]
  | .str _, e, h => by cases e <;> simp_all [sm]
  | .list xs, e, h => by
    cases e with
    | list ys => rw [sm] at h; rw [smAll_eq xs ys h]
    | _ => simp [sm] at h
  | .tuple xs, e, h => by
    cases e with
    | tuple ys => rw [sm] at h; rw [smAll_eq xs ys h]
    | _ => simp [sm] at h
  | .dict _, e, h => by cases e <;> simp [sm] at h
theorem smAll_eq : ∀ (xs ys : List PyData), smAll xs ys = true → xs = ys
  | [], ys, h => by cases ys <;> simp_all [smAll]
  | x :: xs, ys, h => by
    cases ys with
    | nil => simp [smAll] at h
    | cons y ys =>
      rw [smAll, Bool.and_eq_true] at h
      rw [sm_eq x y h.1, smAll_eq xs ys h.2]
end
theorem smAll_len : ∀ {xs ys : List PyData}, smAll xs ys = true → xs.length = ys.length := fun h => by rw [smAll_eq _ _ h]
theorem fitAll_mem : ∀ {xs : List PyData} {n : Nat} {x : PyData}, fitAll xs n = true → x ∈ xs → fit x n = true
  | y :: r, n, x, h, m => by
    rw [fitAll, Bool.and_eq_true] at h
    rcases List.mem_cons.mp m with rfl | m
    · exact h.1
    · exact fitAll_mem h.2 m
/-- by places -/
theorem smAll_at : ∀ {xs ys : List PyData}, xs.length = ys.length → (smAll xs ys = true ↔ ∀ i, i < ys.length → sm (xs.getD i .none) (ys.getD i .none) = true)
  | [], [], _ => by simp [smAll]
  | x :: xs, y :: ys, h => by
    have ih := smAll_at (xs := xs) (ys := ys) (by simpa using h)
    rw [smAll, Bool.and_eq_true, ih]
    constructor
    · rintro ⟨h1, h2⟩ i hi
      cases i with
      | zero => exact h1
      | succ i => exact h2 i (by simpa using hi)
    · intro h
      exact ⟨h 0 (by simp), fun i hi => h (i + 1) (by simpa using hi)⟩
theorem given_zero {n : Nat} {f : Nat → Bool} {v : Nat → V} : (given n f v).length = 0 ↔ ∀ i, i < n → f i = false := by
  unfold given
  rw [List.length_map, List.length_eq_zero_iff, List.filter_eq_nil_iff]
  constructor
  · intro h i hi
    have := h i (List.mem_range.mpr hi)
    simpa using this
  · intro h i hi
    rw [h i (List.mem_range.mp hi)]
    decide
theorem smAll_given {xs ys : List PyData} (h : xs.length = ys.length) (v : Nat → V) : decide (((given ys.length (fun i => !sm (xs.getD i .none) (ys.getD i .none)) v).length : Int) = 0) = smAll xs ys := by
  have h1 := given_zero (n := ys.length) (f := fun i => !sm (xs.getD i .none) (ys.getD i .none)) (v := v)
  have h2 := smAll_at h
  cases e : smAll xs ys with
  | true =>
    rw [decide_eq_true_eq]
    have := h1.mpr fun i hi => by
      show (!sm (xs.getD i .none) (ys.getD i .none)) = false
      rw [h2.mp e i hi]; rfl
    omega
  | false =>
    rw [decide_eq_false_iff_not]
    intro z
    have hz : (given ys.length (fun i => !sm (xs.getD i .none) (ys.getD i .none)) v).length = 0 := by omega
    have := h2.mpr fun i hi => by
      have := h1.mp hz i hi
      simpa using this
    rw [e] at this
    cases this
section
variable {K : PySem.W.Frag} {H H' : Hp}
mutual
theorem dp_ex (e : Ex H H') : ∀ (d : PyData) (v : V), Dp K H v d → Dp K H' v d
  | .none, _, h => by cases h; exact .non
  | .bool _, _, h => by cases h; exact .bl _
  | .int _, _, h => by cases h; exact .int _
  | .str _, _, h => by cases h; exact .str _
  | .list ds, _, h => by
    cases h with
    | lst s a => exact .lst (ex_l e s) (dpa_ex e ds _ a)
  | .tuple ds, _, h => by
    cases h with
    | tup s a => exact .tup (ex_t e s) (dpa_ex e ds _ a)
  | .dict _, _, h => by cases h
theorem dpa_ex (e : Ex H H') : ∀ (ds : List PyData) (vs : List V), DpAll K H vs ds → DpAll K H' vs ds
  | [], _, h => by cases h; exact .nil
  | d :: ds, _, h => by
    cases h with
    | cons a b => exact .cons (dp_ex e d _ a) (dpa_ex e ds _ b)
end
theorem dpa_len : ∀ {vs : List V} {ds : List PyData}, DpAll K H vs ds → vs.length = ds.length
  | _, _, .nil => rfl
  | _, _, .cons _ b => by rw [List.length_cons, List.length_cons, dpa_len b]
theorem dpa_at : ∀ {vs : List V} {ds : List PyData} {i : Nat}, DpAll K H vs ds → i < ds.length → ∃ v, vs[i]? = some v ∧ Dp K H v (ds.getD i .none)
  | _, _, i, .nil, h => by simp at h
  | _, _, 0, .cons a _, _ => ⟨_, rfl, a⟩
  | _, _, i + 1, .cons _ b, h => by
    obtain ⟨v, h1, h2⟩ := dpa_at (i := i) b (by simpa using h)
    exact ⟨v, h1, h2⟩
theorem dpa_ints : ∀ ns : List Int, DpAll K H (ns.map V.int) (ns.map PyData.int)
  | [] => .nil
  | n :: r => .cons (.int n) (dpa_ints r)
theorem fit_ints : ∀ (ns : List Int) (n : Nat), fitAll (ns.map PyData.int) n = true
  | [], n => by simp [fitAll]
  | z :: r, n => by
    rw [List.map_cons, fitAll, fit_ints r n]
    simp [fit]
def tyn : PyData → String
  | .none => "NoneType"
  | .bool _ => "bool"
  | .int _ => "int"
  | .str _ => "str"
  | .list _ => "list"
  | .tuple _ => "tuple"
  | .dict _ => "dict"
theorem dp_ty {v : V} {d : PyData} (h : Dp K H v d) : TyX K H v (.type (tyn d)) := by
  cases h with
  | non => exact .base .non
  | bl b => exact .base (.bl b)
  | int i => exact .base (.int i)
  | str x => exact .base (.str x)
  | lst s _ =>
    rcases s with (s | ⟨o, s⟩) | ⟨o, its, n, l, c, _⟩
    · exact .base (.lst s)
    · exact .base (.frz s)
    · exact .kList l c
  | tup s _ =>
    rcases s with (s | ⟨o, s⟩) | ⟨o, its, n, l, c, _⟩
    · exact .base (.tup s)
    · exact .fTuple s
    · exact .kTuple l c
/-- isinstance(d, c), c one of bool, int, str, list, tuple -/
def isaS (t c : String) : Bool := (kitB t c).getD false
def isa (d : PyData) (c : String) : Bool := isaS (tyn d) c
theorem kit_all : ∀ t ∈ ["NoneType", "bool", "int", "str", "list", "tuple", "dict"], kitB t "bool" = some (isaS t "bool") ∧ kitB t "int" = some (isaS t "int") ∧ kitB t "str" = some (isaS t "str") ∧ kitB t "list" = some (isaS t "list") ∧ kitB t "tuple" = some (isaS t "tuple") := by
  decide +kernel
theorem tyn_mem (d : PyData) : tyn d ∈ ["NoneType", "bool", "int", "str", "list", "tuple", "dict"] := by
  cases d <;> simp [tyn]
theorem kitB_isa (d : PyData) : kitB (tyn d) "bool" = some (isa d "bool") ∧ kitB (tyn d) "int" = some (isa d "int") ∧ kitB (tyn d) "str" = some (isa d "str") ∧ kitB (tyn d) "list" = some (isa d "list") ∧ kitB (tyn d) "tuple" = some (isa d "tuple") :=
  kit_all _ (tyn_mem d)
theorem isa_bool : ∀ d : PyData, isa d "bool" = (match d with | .bool _ => true | _ => false)
  | .none => (by decide +kernel : isaS "NoneType" "bool" = false)
  | .bool _ => (by decide +kernel : isaS "bool" "bool" = true)
  | .int _ => (by decide +kernel : isaS "int" "bool" = false)
  | .str _ => (by decide +kernel : isaS "str" "bool" = false)
  | .list _ => (by decide +kernel : isaS "list" "bool" = false)
  | .tuple _ => (by decide +kernel : isaS "tuple" "bool" = false)
  | .dict _ => (by decide +kernel : isaS "dict" "bool" = false)
theorem isa_int : ∀ d : PyData, isa d "int" = (match d with | .int _ => true | .bool _ => true | _ => false)
  | .none => (by decide +kernel : isaS "NoneType" "int" = false)
  | .bool _ => (by decide +kernel : isaS "bool" "int" = true)
  | .int _ => (by decide +kernel : isaS "int" "int" = true)
  | .str _ => (by decide +kernel : isaS "str" "int" = false)
  | .list _ => (by decide +kernel : isaS "list" "int" = false)
  | .tuple _ => (by decide +kernel : isaS "tuple" "int" = false)
  | .dict _ => (by decide +kernel : isaS "dict" "int" = false)
theorem isa_str : ∀ d : PyData, isa d "str" = (match d with | .str _ => true | _ => false)
  | .none => (by decide +kernel : isaS "NoneType" "str" = false)
  | .bool _ => (by decide +kernel : isaS "bool" "str" = false)
  | .int _ => (by decide +kernel : isaS "int" "str" = false)
  | .str _ => (by decide +kernel : isaS "str" "str" = true)
  | .list _ => (by decide +kernel : isaS "list" "str" = false)
  | .tuple _ => (by decide +kernel : isaS "tuple" "str" = false)
  | .dict _ => (by decide +kernel : isaS "dict" "str" = false)
theorem isa_list : ∀ d : PyData, isa d "list" = (match d with | .list _ => true | _ => false)
  | .none => (by decide +kernel : isaS "NoneType" "list" = false)
  | .bool _ => (by decide +kernel : isaS "bool" "list" = false)
  | .int _ => (by decide +kernel : isaS "int" "list" = false)
  | .str _ => (by decide +kernel : isaS "str" "list" = false)
  | .list _ => (by decide +kernel : isaS "list" "list" = true)
  | .tuple _ => (by decide +kernel : isaS "tuple" "list" = false)
  | .dict _ => (by decide +kernel : isaS "dict" "list" = false)
theorem isa_tuple : ∀ d : PyData, isa d "tuple" = (match d with | .tuple _ => true | _ => false)
  | .none => (by decide +kernel : isaS "NoneType" "tuple" = false)
  | .bool _ => (by decide +kernel : isaS "bool" "tuple" = false)
  | .int _ => (by decide +kernel : isaS "int" "tuple" = false)
  | .str _ => (by decide +kernel : isaS "str" "tuple" = false)
  | .list _ => (by decide +kernel : isaS "list" "tuple" = false)
  | .tuple _ => (by decide +kernel : isaS "tuple" "tuple" = true)
  | .dict _ => (by decide +kernel : isaS "dict" "tuple" = false)
theorem ev_isi {σ : L2.St} {te : TE} {x : V} {d : PyData} {c : String} {b : Bool} (hd : Dp K H x d) (h : Ev te σ H x) (hk : kitB (tyn d) c = some b) : Ev (tCB (rIsi K) (tCons te (tCons (tC (.ty c)) tNil))) σ H (.bl b) :=
  ev_cb (ea_cons h (ea_cons ev_c ea_nil)) fun H1 e Q q => ⟨x, .ty c, _, _, b, rfl, .ty c, dp_ty (dp_ex e d x hd), kit_ty hk, q H1 (Ex.refl H1)⟩
/-- isinstance(x, (list, tuple)) -/
theorem ev_isiLT {σ : L2.St} {te : TE} {x : V} {d : PyData} (hd : Dp K H x d) (h : Ev te σ H x) : Ev (tCB (rIsiT K) (tCons te (tCons (tTup (tCons (tC (.ty "list")) (tCons (tC (.ty "tuple")) tNil))) tNil))) σ H (.bl (isa d "list" || isa d "tuple")) := fun H1 e Q q =>
  h H1 e _ fun H2 e2 => ⟨by decide, fun p hp => ⟨x, p, _, _, _, _, rfl, upd_same, .cons (.ty _) (.cons (.ty _) .nil), dp_ty (dp_ex ((e.trans e2).trans (Ex.new hp)) d x hd),
    kitAny_cons (kit_ty (kitB_isa d).2.2.2.1) (fun hb => kitAny_cons (r := isa d "list" || isa d "tuple") (kit_ty (kitB_isa d).2.2.2.2) (fun hc => by rw [hb, hc]; exact kitAny_nil) (fun hc => by rw [hc, Bool.or_true])) (fun hb => by rw [hb, Bool.true_or]),
    q _ (e2.trans (Ex.new hp))⟩⟩
theorem ev_isN {σ : L2.St} {te : TE} {x : V} (h : Ev te σ H x) : Ev (tOp (fun x y H Q => y = .non ∧ Q (.bl (decide (x = .non))) H) te (tC .non)) σ H (.bl (decide (x = .non))) :=
  ev_op h ev_c (rv_val fun _ _ _ q => ⟨rfl, q⟩)
/-- a list or a tuple -/
def Sq (K : PySem.W.Frag) (H : Hp) (a : Addr) (xs : List V) : Prop := SqL K H a xs ∨ SqT K H a xs
theorem sq_ex {a : Addr} {xs : List V} (e : Ex H H') (h : Sq K H a xs) : Sq K H' a xs := h.imp (ex_l e) (ex_t e)
theorem ev_lenS {σ : L2.St} {ta : TE} {p : Addr} {xs : List V} (ha : Ev ta σ H (.ref p)) (h : Sq K H p xs) : Ev (tCB (rLenS K) (tCons ta tNil)) σ H (.int (xs.length : Int)) := fun H1 e Q q =>
  ha H1 e _ fun H2 e2 => ⟨p, xs, rfl, sq_ex (e.trans e2) h, q H2 e2⟩
theorem rv_ixS {p : Addr} {xs : List V} {i : Int} {v : V} (h : Sq K H p xs) (ha : atI xs i = some v) : RV (rIx K) (.ref p) (.int i) H v := fun H1 e _ q => by
  rcases h with h | h
  · exact .inl ⟨p, xs, i, v, rfl, rfl, ex_l e h, ha, q H1 (Ex.refl H1)⟩
  · exact .inr (.inl ⟨p, xs, i, v, rfl, rfl, ex_t e h, ha, q H1 (Ex.refl H1)⟩)
end
abbrev s_law_same : Stmt := topS 7
theorem sc_law_same : FnScope ["actual", "due", "k"] ["actual", "due"] (defScope s_law_same) := ⟨rfl, rfl, rfl, by decide +kernel, rfl, by decide +kernel, by decide +kernel⟩
section
variable {P : Program} {w : World} {K : PySem.W.Frag} {mg : Str → Option Value} {base : Heap}
def spSame (K : PySem.W.Frag) (n : Nat) : Sp := fun vs H Q _ => ∃ (x y : V) (d e : PyData) (m : Nat), vs = [x, y] ∧ n = m + 1 ∧ Dp K H x d ∧ Dp K H y e ∧ fit d m = true ∧ fit e m = true ∧ ∀ H', Ex H H' → Q (.bl (sm d e)) H'
theorem scal_bool {H : Hp} {x y : V} {d e : PyData} (hx : Dp K H x d) (hy : Dp K H y e) (h1 : isa e "bool" = true) (h2 : isa d "bool" = true) : scal x y = true := by
  rw [isa_bool] at h1 h2
  cases hx <;> simp at h2
  cases hy <;> simp at h1
  rfl
theorem scal_int {H : Hp} {x y : V} {d e : PyData} (hx : Dp K H x d) (hy : Dp K H y e) (c1 : isa e "bool" = false) (c2 : isa d "bool" = false) (h1 : isa e "int" = true) (h2 : isa d "int" = true) : scal x y = true := by
  rw [isa_bool] at c1 c2
  rw [isa_int] at h1 h2
  cases hx <;> simp at h2 c2
  cases hy <;> simp at h1 c1
  rfl
theorem scal_str {H : Hp} {x y : V} {d e : PyData} (hx : Dp K H x d) (hy : Dp K H y e) (h1 : isa e "str" = true) (h2 : isa d "str" = true) : scal x y = true := by
  rw [isa_str] at h1 h2
  cases hx <;> simp at h2
  cases hy <;> simp at h1
  rfl
theorem ans_non {H : Hp} {x y : V} {d e : PyData} (hx : Dp K H x d) (hy : Dp K H y e) (h : y = .non) : decide (x = V.non) = sm d e := by
  subst h
  cases hy
  cases hx <;> simp [sm]
theorem ans_bool {H : Hp} {x y : V} {d e : PyData} (hx : Dp K H x d) (hy : Dp K H y e) (hn : decide (y = V.non) = false) (h : (isa e "bool" || isa d "bool") = true) : (isa e "bool" && (isa d "bool" && decide (x = y))) = sm d e := by
  rw [isa_bool, isa_bool] at h ⊢
  cases hy <;> simp at hn <;> cases hx <;> simp [sm] at h ⊢
theorem ans_int {H : Hp} {x y : V} {d e : PyData} (hx : Dp K H x d) (hy : Dp K H y e) (c1 : isa e "bool" = false) (c2 : isa d "bool" = false) (h : isa e "int" = true) : (isa d "int" && decide (x = y)) = sm d e := by
  rw [isa_bool] at c1 c2
  rw [isa_int] at h ⊢
  cases hy <;> simp at h c1 <;> cases hx <;> simp [sm] at c2 ⊢
theorem ans_str {H : Hp} {x y : V} {d e : PyData} (hx : Dp K H x d) (hy : Dp K H y e) (h : isa e "str" = true) : (isa d "str" && decide (x = y)) = sm d e := by
  rw [isa_str] at h ⊢
  cases hy <;> simp at h <;> cases hx <;> simp [sm]
theorem ans_kind {H : Hp} {x y : V} {d e : PyData} (hx : Dp K H x d) (hy : Dp K H y e) (hn : decide (y = V.non) = false) (c1 : isa e "bool" = false) (hi : isa e "int" = false) (hs : isa e "str" = false)
    (h : ((!decide (V.bl (isa e "list") = V.bl (isa d "list"))) || !(isa d "list" || isa d "tuple")) = true) : false = sm d e := by
  rw [isa_list, isa_list, isa_tuple] at h
  rw [isa_int] at hi
  rw [isa_str] at hs
  rw [isa_bool] at c1
  cases hy <;> simp at hn hi hs c1 <;> cases hx <;> simp [sm] at h ⊢
theorem fit_list {xs : List PyData} {n : Nat} (h : fit (.list xs) n = true) : ∃ m, n = m + 1 ∧ xs.length ≤ 10000 ∧ fitAll xs m = true := by
  cases n with
  | zero => simp [fit] at h
  | succ m =>
    rw [fit, Bool.and_eq_true] at h
    exact ⟨m, rfl, of_decide_eq_true h.1, h.2⟩
theorem fit_tuple {xs : List PyData} {n : Nat} (h : fit (.tuple xs) n = true) : ∃ m, n = m + 1 ∧ xs.length ≤ 10000 ∧ fitAll xs m = true := by
  cases n with
  | zero => simp [fit] at h
  | succ m =>
    rw [fit, Bool.and_eq_true] at h
    exact ⟨m, rfl, of_decide_eq_true h.1, h.2⟩
theorem fit_two {xs ys : List PyData} {n : Nat} (h1 : ∃ m, n = m + 1 ∧ xs.length ≤ 10000 ∧ fitAll xs m = true) (h2 : ∃ m, n = m + 1 ∧ ys.length ≤ 10000 ∧ fitAll ys m = true) :
    ∃ m, n = m + 1 ∧ xs.length ≤ 10000 ∧ ys.length ≤ 10000 ∧ fitAll xs m = true ∧ fitAll ys m = true := by
  obtain ⟨m, rfl, a, b⟩ := h1
  obtain ⟨m', e, c, d⟩ := h2
  have : m' = m := by omega
  subst this
  exact ⟨_, rfl, a, c, b, d⟩
/-- both sides hold items -/
theorem both_items {H : Hp} {x y : V} {d e : PyData} (hx : Dp K H x d) (hy : Dp K H y e) (h1 : isa d "list" = isa e "list") (h2 : (isa d "list" || isa d "tuple") = true) (hn : decide (y = .non) = false) (h4 : isa e "int" = false) (h5 : isa e "str" = false) :
    ∃ a xs ds b ys es, x = .ref a ∧ y = .ref b ∧ Sq K H a xs ∧ Sq K H b ys ∧ DpAll K H xs ds ∧ DpAll K H ys es ∧ sm d e = smAll ds es ∧ ∀ n, fit d n = true → fit e n = true → ∃ m, n = m + 1 ∧ ds.length ≤ 10000 ∧ es.length ≤ 10000 ∧ fitAll ds m = true ∧ fitAll es m = true := by
  rw [isa_list, isa_list] at h1
  rw [isa_list, isa_tuple] at h2
  rw [isa_int] at h4
  rw [isa_str] at h5
  cases hx with
  | lst s a =>
    cases hy with
    | lst s2 a2 => exact ⟨_, _, _, _, _, _, rfl, rfl, .inl s, .inl s2, a, a2, by rw [sm], fun n f g => fit_two (fit_list f) (fit_list g)⟩
    | non => cases hn
    | _ => cases h1
  | tup s a =>
    cases hy with
    | tup s2 a2 => exact ⟨_, _, _, _, _, _, rfl, rfl, .inr s, .inr s2, a, a2, by rw [sm], fun n f g => fit_two (fit_tuple f) (fit_tuple g)⟩
    | lst _ _ => cases h1
    | non => cases hn
    | bl => cases h4
    | int => cases h4
    | str => cases h5
  | _ => cases h2
theorem same_step {f : Addr} {fd : FuncData} {n : Nat} (F : Fun K "_law_same" "_law_same" s_law_same f fd) (z_len : mg "len" = none) (z_isinstance : mg "isinstance" = none) (z_bool : mg "bool" = none) (z_int : mg "int" = none) (z_str : mg "str" = none)
    (z_list : mg "list" = none) (z_tuple : mg "tuple" = none) (z_range : mg "range" = none) (C_law_same : Cal P w K mg base n "_law_same" (spSame K n) []) : FnOk P w K mg base CX0 (n + 1) f fd ["actual", "due"] (spSame K (n + 1)) := by
  have sc := sc_law_same
  refine F.ok sc (fun vs H Q E h => ?_) (fun cdv A outer s H vs Q E hr h => ?_)
  · obtain ⟨x, y, d, e, m, rfl, _⟩ := h
    rfl
  · obtain ⟨x, y, d, e, n', rfl, en, hx, hy, fx, fy, q⟩ := h
    obtain rfl : n' = n := by omega
    refine ⟨_, (pss_cons (ps_if (pt_cmpR op_isN (pv 1) pe_non (nomark _))
      (pss_one (ps_ret (pe_cmpR op_isN (pv 0) pe_non (nomark _))))
      pss_nil)
      (pss_cons (ps_if (PW.pt (pw_or (pt_val (pe_callB call_isi (by rfl) z_isinstance (by decide +kernel) (pa_cons (pv 1) (pa_cons (pe_bltn (v := .ty "bool") (by rfl) z_bool (by decide +kernel) rfl) pa_nil)))) (pw_or1 (pt_val (pe_callB call_isi (by rfl) z_isinstance (by decide +kernel) (pa_cons (pv 0) (pa_cons (pe_bltn (v := .ty "bool") (by rfl) z_bool (by decide +kernel) rfl) pa_nil)))))))
      (pss_one (ps_ret (pe_and (pe_callB call_isi (by rfl) z_isinstance (by decide +kernel) (pa_cons (pv 1) (pa_cons (pe_bltn (v := .ty "bool") (by rfl) z_bool (by decide +kernel) rfl) pa_nil))) (pe_and (pe_callB call_isi (by rfl) z_isinstance (by decide +kernel) (pa_cons (pv 0) (pa_cons (pe_bltn (v := .ty "bool") (by rfl) z_bool (by decide +kernel) rfl) pa_nil))) (pe_one (pe_cmpR op_eq (pv 0) (pv 1) (nomark _)))))))
      pss_nil)
      (pss_cons (ps_if (pt_val (pe_callB call_isi (by rfl) z_isinstance (by decide +kernel) (pa_cons (pv 1) (pa_cons (pe_bltn (v := .ty "int") (by rfl) z_int (by decide +kernel) rfl) pa_nil))))
      (pss_one (ps_ret (pe_and (pe_callB call_isi (by rfl) z_isinstance (by decide +kernel) (pa_cons (pv 0) (pa_cons (pe_bltn (v := .ty "int") (by rfl) z_int (by decide +kernel) rfl) pa_nil))) (pe_one (pe_cmpR op_eq (pv 0) (pv 1) (nomark _))))))
      pss_nil)
      (pss_cons (ps_if (pt_val (pe_callB call_isi (by rfl) z_isinstance (by decide +kernel) (pa_cons (pv 1) (pa_cons (pe_bltn (v := .ty "str") (by rfl) z_str (by decide +kernel) rfl) pa_nil))))
      (pss_one (ps_ret (pe_and (pe_callB call_isi (by rfl) z_isinstance (by decide +kernel) (pa_cons (pv 0) (pa_cons (pe_bltn (v := .ty "str") (by rfl) z_str (by decide +kernel) rfl) pa_nil))) (pe_one (pe_cmpR op_eq (pv 0) (pv 1) (nomark _))))))
      pss_nil)
      (pss_cons (ps_if (PW.pt (pw_or (pt_cmpR op_ne (pe_callB call_isi (by rfl) z_isinstance (by decide +kernel) (pa_cons (pv 1) (pa_cons (pe_bltn (v := .ty "list") (by rfl) z_list (by decide +kernel) rfl) pa_nil))) (pe_callB call_isi (by rfl) z_isinstance (by decide +kernel) (pa_cons (pv 0) (pa_cons (pe_bltn (v := .ty "list") (by rfl) z_list (by decide +kernel) rfl) pa_nil))) (nomark _)) (pw_or1 (pt_not (pt_val (pe_callB call_isiT (by rfl) z_isinstance (by decide +kernel) (pa_cons (pv 0) (pa_cons (pe_tup (pa_cons (pe_bltn (v := .ty "list") (by rfl) z_list (by decide +kernel) rfl) (pa_cons (pe_bltn (v := .ty "tuple") (by rfl) z_tuple (by decide +kernel) rfl) pa_nil))) pa_nil))))))))
      (pss_one (ps_ret pe_bl))
      pss_nil)
      (pss_cons (ps_if (pt_cmpR op_ne (pe_callB call_len_seq (by rfl) z_len (by decide +kernel) (pa_cons (pv 0) pa_nil)) (pe_callB call_len_seq (by rfl) z_len (by decide +kernel) (pa_cons (pv 1) pa_nil)) (nomark _))
      (pss_one (ps_ret pe_bl))
      pss_nil)
      (pss_one (ps_ret (pe_cmpR op_eq (pe_callB call_len_seq (by rfl) z_len (by decide +kernel) (pa_cons (pe_lc (own := [("k", 2)]) (by rfl) sc.nd (pi_range1 (by rfl) z_range (pa_cons (pe_callB call_len_seq (by rfl) z_len (by decide +kernel) (pa_cons (pv 1) pa_nil)) pa_nil)) (blkOk_by (own := [("k", 2)]) (N := ["actual", "due", "k"]) (sc := defScope s_law_same) (by decide +kernel)) (fun _ _ _ _ _ => (pg_name (i := 2) sc.nd rfl (by first | exact Or.inl rfl | exact Or.inr rfl))) (fun _ _ _ _ _ => (pts_one (pt_not (pt_val (pe_c C_law_same hr (by omega) (by rfl) (pa_cons (pe_ix (ix_seq : IxR _ (rIx K)) (pv 0) (pv 2) (fun _ _ => rfl)) (pa_cons (pe_ix (ix_seq : IxR _ (rIx K)) (pv 1) (pv 2) (fun _ _ => rfl)) pa_nil))))))) (fun _ _ _ _ _ => (pv 2))) pa_nil)) pe_int (nomark _)))))))))), ?_⟩
    have kd := kitB_isa d
    have ke := kitB_isa e
    have vx : ∀ H1, Ex H H1 → Dp K H1 x d := fun H1 a => dp_ex a d x hx
    have vy : ∀ H1, Ex H H1 → Dp K H1 y e := fun H1 a => dp_ex a e y hy
    -- if due is None
    refine q_when (et_test (ev_isN (ev_var rfl))) (fun hb H1 e1 => ?_) (fun hb H1 e1 => ?_)
    · refine s_ret (ev_isN (ev_var rfl)) fun H2 e2 => ?_
      have z := ans_non hx hy (of_decide_eq_true hb)
      rw [z]
      exact q H2 (e1.trans e2)
    -- if isinstance(due, bool) or isinstance(actual, bool)
    refine q_when (et_or (et_B (ev_isi (vy _ e1) (ev_var rfl) ke.1)) fun _ => et_B (ev_isi (vx _ e1) (ev_var rfl) kd.1)) (fun hc H2 e2 => ?_) (fun hc H2 e2 => ?_)
    · have e12 := e1.trans e2
      refine s_ret (ev_andV (ev_isi (vy _ e12) (ev_var rfl) ke.1) fun h1 => ev_andV (b := decide (x = y)) (ev_isi (vx _ e12) (ev_var rfl) kd.1) fun h2 => ev_op (ev_var rfl) (ev_var rfl) (rv_eq ?_)) fun H3 e3 => ?_
      · exact scal_bool hx hy h1 h2
      · have z := ans_bool hx hy hb hc
        rw [z]
        exact q H3 (e12.trans e3)
    have e12 := e1.trans e2
    obtain ⟨c1, c2⟩ := Bool.or_eq_false_iff.mp hc
    -- if isinstance(due, int)
    refine q_when (et_B (ev_isi (vy _ e12) (ev_var rfl) ke.2.1)) (fun hc H3 e3 => ?_) (fun hci H3 e3 => ?_)
    · have e13 := e12.trans e3
      refine s_ret (ev_andV (b := decide (x = y)) (ev_isi (vx _ e13) (ev_var rfl) kd.2.1) fun h2 => ev_op (ev_var rfl) (ev_var rfl) (rv_eq ?_)) fun H4 e4 => ?_
      · exact scal_int hx hy c1 c2 hc h2
      · have z := ans_int hx hy c1 c2 hc
        rw [z]
        exact q H4 (e13.trans e4)
    have e13 := e12.trans e3
    -- if isinstance(due, str)
    refine q_when (et_B (ev_isi (vy _ e13) (ev_var rfl) ke.2.2.1)) (fun hc H4 e4 => ?_) (fun hcs H4 e4 => ?_)
    · have e14 := e13.trans e4
      refine s_ret (ev_andV (b := decide (x = y)) (ev_isi (vx _ e14) (ev_var rfl) kd.2.2.1) fun h2 => ev_op (ev_var rfl) (ev_var rfl) (rv_eq ?_)) fun H5 e5 => ?_
      · exact scal_str hx hy hc h2
      · have z := ans_str hx hy hc
        rw [z]
        exact q H5 (e14.trans e5)
    have e14 := e13.trans e4
    -- if isinstance(due, list) != isinstance(actual, list) or not isinstance(actual, (list, tuple))
    refine q_when (et_or (et_test (ev_op (ev_isi (vy _ e14) (ev_var rfl) ke.2.2.2.1) (ev_isi (vx _ e14) (ev_var rfl) kd.2.2.2.1) (rv_ne rfl))) fun _ => et_not (et_B (ev_isiLT (vx _ e14) (ev_var rfl)))) (fun hc H5 e5 => ?_) (fun hc H5 e5 => ?_)
    · refine s_ret ev_c fun H6 e6 => ?_
      have z := ans_kind hx hy hb c1 hci hcs hc
      rw [z]
      exact q H6 ((e14.trans e5).trans e6)
    have e15 := e14.trans e5
    obtain ⟨c3, c4⟩ := Bool.or_eq_false_iff.mp hc
    have c5 : isa d "list" = isa e "list" := by
      have := of_decide_eq_true (by simpa using c3 : decide (V.bl (isa e "list") = V.bl (isa d "list")) = true)
      exact (V.bl.inj this).symm
    obtain ⟨a, xs, ds, b, ys, es, rfl, rfl, sx, sy, ax, ay, es0, ft⟩ := both_items (vx _ e15) (vy _ e15) c5 (by rw [Bool.not_eq_false'] at c4; exact c4) hb hci hcs
    obtain ⟨m, em, lx, ly, gx, gy⟩ := ft n' fx fy
    have l1 := dpa_len ax
    have l2 := dpa_len ay
    -- if len(actual) != len(due)
    refine q_when (et_test (ev_op (ev_lenS (ev_var rfl) sx) (ev_lenS (ev_var rfl) sy) (rv_ne rfl))) (fun hc H6 e6 => ?_) (fun hc H6 e6 => ?_)
    · refine s_ret ev_c fun H7 e7 => ?_
      have z : false = sm d e := by
        rw [es0]
        cases e9 : smAll ds es with
        | false => rfl
        | true =>
          have := smAll_len e9
          have h9 : (xs.length : Int) = (ys.length : Int) := by omega
          rw [h9] at hc
          simp at hc
      rw [z]
      exact q H7 ((e15.trans e6).trans e7)
    have h9 : ds.length = es.length := by
      have : V.int (xs.length : Int) = V.int (ys.length : Int) := of_decide_eq_true (by simpa using hc)
      have := V.int.inj this
      omega
    have e16 := e15.trans e6
    have sx := sq_ex e6 sx
    have sy := sq_ex e6 sy
    have ax := dpa_ex e6 ds _ ax
    have ay := dpa_ex e6 es _ ay
    refine s_ret (ev_op (ev_lenN (el_lcR1 (fun i => !sm (ds.getD i .none) (es.getD i .none)) (fun i => .int (i : Int)) (ea_cons (ev_lenS (ev_var rfl) sy) ea_nil) ⟨by omega, by omega⟩ (fun _ => rfl) (fun i H7 e7 hi => ?_) (fun i H7 e7 hi _ => ev_var rfl))) ev_c (rv_eq rfl)) fun H7 e7 => ?_
    · have hi2 : i < es.length := by omega
      obtain ⟨v1, g1, p1⟩ := dpa_at ax (show i < ds.length by omega)
      obtain ⟨v2, g2, p2⟩ := dpa_at ay hi2
      refine et_not (et_B (ev_call (vs := [v1, v2]) (ea_cons (ev_op (ev_var rfl) (ev_var rfl) (rv_ixS (sq_ex e7 sx) (atI_nat g1))) (ea_cons (ev_op (ev_var rfl) (ev_var rfl) (rv_ixS (sq_ex e7 sy) (atI_nat g2))) ea_nil)) fun H8 e8 Q8 q8 E8 => ?_))
      refine ⟨v1, v2, _, _, m, rfl, em, dp_ex (e7.trans e8) _ _ p1, dp_ex (e7.trans e8) _ _ p2, fitAll_mem gx ?_, fitAll_mem gy ?_, q8⟩
      · rw [List.getD_eq_getElem?_getD, List.getElem?_eq_getElem (show i < ds.length by omega)]
        exact List.getElem_mem _
      · rw [List.getD_eq_getElem?_getD, List.getElem?_eq_getElem hi2]
        exact List.getElem_mem _
    · have z : decide (V.int ((given (ys.length : Int).toNat (fun i => !sm (ds.getD i .none) (es.getD i .none)) (fun i => .int (i : Int))).length : Int) = V.int 0) = sm d e := by
        rw [es0, ← smAll_given h9 (fun i => .int (i : Int))]
        have h10 : (ys.length : Int).toNat = es.length := by omega
        rw [h10]
        have : ∀ k : Int, decide (V.int k = V.int 0) = decide (k = 0) := fun k => by
          rw [dec_int]
          exact (Bool.eq_iff_iff.mpr (by simp))
        exact this _
      rw [z]
      exact q H7 (e16.trans e7)
theorem ok_same {f : Addr} {fd : FuncData} (F : Fun K "_law_same" "_law_same" s_law_same f fd) (g : mg "_law_same" = some (.ref f)) (b : Binds K fd ["actual", "due"] []) (z_len : mg "len" = none) (z_isinstance : mg "isinstance" = none) (z_bool : mg "bool" = none) (z_int : mg "int" = none) (z_str : mg "str" = none)
    (z_list : mg "list" = none) (z_tuple : mg "tuple" = none) (z_range : mg "range" = none) : ∀ n, FnOk P w K mg base CX0 n f fd ["actual", "due"] (spSame K n)
  | 0 => ⟨fun _ _ _ _ ⟨_, _, _, _, _, _, h, _⟩ => (nomatch h), fun _ _ _ _ _ _ _ _ _ _ _ _ _ ⟨_, _, _, _, _, _, h, _⟩ => (nomatch h)⟩
  | n + 1 => same_step F z_len z_isinstance z_bool z_int z_str z_list z_tuple z_range ⟨f, fd, _, [], ok_same F g b z_len z_isinstance z_bool z_int z_str z_list z_tuple z_range n, g, F.kp, b, .nil⟩
end
/-! ### more of what evaluates to what -/
section
variable {K : PySem.W.Frag} {σ : L2.St} {H H' : Hp} {ta te tl : TE} {x y z v : V}
theorem el_is {xs ys : List V} (h : EvL te σ H xs) (e : xs = ys) : EvL te σ H ys := e ▸ h
theorem given_all (n : Nat) (v : Nat → V) : given n (fun _ => true) v = (List.range n).map v := by
  unfold given
  rw [List.filter_eq_self.mpr fun _ _ => rfl]
theorem et_yes : EvT tYes σ H true := fun H1 _ _ q => q H1 (Ex.refl H1)
/-- [e for k in range(n)] -/
theorem el_rng {tr : TA} {j : Nat} {vs : List Nat} {n : Nat} (v : Nat → V) (h : EvA tr σ H [.int (n : Int)]) (hn : n ≤ 40000) (hw : ∀ x, wipe ((wipe σ vs).set j (some x)) vs = wipe σ vs)
    (he : ∀ (i : Nat) H1, Ex H H1 → i < n → Ev te ((wipe σ vs).set j (some (.int (i : Int)))) H1 (v i)) : EvL (tLc (iRng1 tr) (gName j) tYes te vs) σ H ((List.range n).map v) :=
  el_is (el_lcR1 (fun _ => true) v h ⟨by omega, by omega⟩ hw (fun _ _ _ _ => et_yes) (fun i H1 e hi _ => he i H1 e (by omega))) (by rw [given_all, Int.toNat_natCast])
theorem ev_sumN {ns : List Int} (h : EvL te σ H (ns.map V.int)) : Ev (tCB (rSum K) (tCons te tNil)) σ H (.int ns.sum) := fun H1 e Q q =>
  h H1 e _ fun p H2 _ e2 h2 => ⟨p, ns, rfl, sq_of h2, q H2 e2⟩
def Cw2 (H : Hp) (n : Nat) (v : Nat → Nat → V) (D : Addr) (t : Nat) (H' : Hp) : Prop := H D = none ∧ Ex H H' ∧ H' D = some (.lst ((List.range t).map fun m => v (m / n) (m % n)))
/-- [e for i in range(w) for j in range(n)] -/
theorem el_rng2 {tr tr1 : TA} {j j1 : Nat} {vs vs1 : List Nat} {w n : Nat} (v : Nat → Nat → V) (h : EvA tr σ H [.int (w : Int)]) (hw0 : w ≤ 100) (hn0 : n ≤ 100)
    (hw : ∀ x, wipe ((wipe σ vs).set j (some x)) vs = wipe σ vs) (h1 : ∀ (i : Nat) H1, Ex H H1 → i < w → EvA tr1 ((wipe σ vs).set j (some (.int (i : Int)))) H1 [.int (n : Int)])
    (hw1 : ∀ x y, wipe ((wipe ((wipe σ vs).set j (some x)) vs1).set j1 (some y)) vs1 = wipe ((wipe σ vs).set j (some x)) vs1)
    (he : ∀ (i k : Nat) H1, Ex H H1 → i < w → k < n → Ev te ((wipe ((wipe σ vs).set j (some (.int (i : Int)))) vs1).set j1 (some (.int (k : Int)))) H1 (v i k)) :
    EvL (tLc2 (iRng1 tr) (gName j) tYes (iRng1 tr1) (gName j1) tYes te vs vs1) σ H ((List.range (w * n)).map fun m => v (m / n) (m % n)) := fun H0 e Q q => h H0 e _ fun H1 e1 => ⟨(w : Int), rfl, by omega, by omega, fun D hD => by
  have e01 := e.trans e1
  refine ⟨fun i m H' => m = w - i ∧ i ≤ w ∧ Cw2 H1 n v D (i * n) H', ⟨w, by omega, by omega, hD, Ex.new hD, ?_⟩, fun i m H' hW => ?_⟩
  · rw [upd_same, Nat.zero_mul]; rfl
  · obtain ⟨rfl, hi, p⟩ := hW
    by_cases hlt : i < w
    · refine .inr ⟨show i < (w : Int).toNat by omega, fun H2 => Cw2 H1 n v D ((i + 1) * n) H2, fun H2 p2 => ⟨w - (i + 1), by omega, rfl, hlt, p2⟩, fun x H2 y => ?_⟩
      obtain ⟨rfl, rfl⟩ := y
      have e0 : (0 : Int) + (i : Int) = (i : Int) := Int.zero_add _
      show wipe ((wipe σ vs).set j (some (.int ((0 : Int) + (i : Int))))) vs = wipe σ vs ∧ _
      refine ⟨hw _, ?_⟩
      rw [e0]
      refine h1 i _ (e01.trans p.2.1) hlt _ (Ex.refl _) _ fun H3 e3 => ⟨(n : Int), rfl, by omega, by omega, fun k m H4 => m = n - k ∧ k ≤ n ∧ Cw2 H1 n v D (i * n + k) H4, ⟨n, by omega, by omega, p.1, p.2.1.trans e3, e3 _ _ p.2.2⟩, fun k m H4 hW => ?_⟩
      obtain ⟨rfl, hk, p4⟩ := hW
      by_cases hlk : k < n
      · refine .inr ⟨show k < (n : Int).toNat by omega, fun H5 => Cw2 H1 n v D (i * n + (k + 1)) H5, fun H5 p5 => ⟨n - (k + 1), by omega, rfl, hlk, p5⟩, fun x H5 y => ?_⟩
        obtain ⟨rfl, rfl⟩ := y
        have e0 : (0 : Int) + (k : Int) = (k : Int) := Int.zero_add _
        show wipe ((wipe ((wipe σ vs).set j (some (.int (i : Int)))) vs1).set j1 (some (.int ((0 : Int) + (k : Int))))) vs1 = wipe ((wipe σ vs).set j (some (.int (i : Int)))) vs1 ∧ _
        refine ⟨hw1 _ _, ?_⟩
        rw [e0]
        show te _ _ _
        have hh : i * n + k < 10000 := by
          have : i * n ≤ 99 * 100 := Nat.mul_le_mul (by omega) hn0
          omega
        refine he i k _ (e01.trans p4.2.1) hlt hlk _ (Ex.refl _) _ fun H6 e6 => ⟨_, e6 _ _ p4.2.2, ?_, p4.1, Ex.mut (p4.2.1.trans e6) p4.1, ?_⟩
        · rw [List.length_map, List.length_range]
          exact sz_lt (by omega)
        · rw [upd_same, ← Nat.add_assoc, List.range_succ, List.map_append]
          have h1 : (i * n + k) / n = i := by rw [Nat.mul_comm, Nat.mul_add_div (by omega), Nat.div_eq_of_lt hlk, Nat.add_zero]
          have h2 : (i * n + k) % n = k := by rw [Nat.mul_comm, Nat.mul_add_mod, Nat.mod_eq_of_lt hlk]
          rw [List.map_singleton, h1, h2]
      · have : k = n := by omega
        subst this
        refine .inl ⟨show (k : Int).toNat ≤ k by omega, ?_⟩
        rw [Nat.succ_mul]
        exact p4
    · have : i = w := by omega
      subst this
      exact .inl ⟨show (i : Int).toNat ≤ i by omega, q D H' (fresh_back e1 p.1) (e1.trans p.2.1) p.2.2⟩⟩
/-- a comprehension over a list that is made on the way -/
theorem lc_new {xs : List V} {g : TG} {tt : TT} {vs : List Nat} {Q : VK} (h : EvL tl σ H xs)
    (k : ∀ L H1, H L = none → Ex H H1 → H1 L = some (.lst xs) → ∀ D, H1 D = none → ∃ W : Nat → Nat → Hp → Prop, (∃ m, W 0 m (upd H1 D (.lst []))) ∧ ∀ i m H, W i m H →
      ((Itl K L).stop i H ∧ Q (.ref D) H) ∨ ((Itl K L).go i H ∧ ∃ Nx : Hp → Prop, (∀ H', Nx H' → ∃ m', m' < m ∧ W (i + 1) m' H') ∧ ∀ x H', (Itl K L).yld i H x H' → g x (wipe σ vs) H' fun σ2 H2 => wipe σ2 vs = wipe σ vs ∧ tt σ2 H2 fun b H3 =>
        if b = true then te σ2 H3 fun y H4 => ∃ acc, H4 D = some (.lst acc) ∧ acc.length < sizeLine ∧ Nx (upd H4 D (.lst (acc ++ [y]))) else Nx H3)) : tLc (iList K tl) g tt te vs σ H Q :=
  h H (Ex.refl H) _ fun L H1 nL e1 hL => ⟨L, rfl, ⟨xs, sq_of hL⟩, k L H1 nL e1 hL⟩
theorem s_retR {D : Ends} (h : te σ H D.rt) : tRet te D σ H := h
end
/-! ### what evaluates to something that is so -/
section
variable {K : PySem.W.Frag} {σ : L2.St} {H H' : Hp} {ta te tx ty : TE} {v : V} {Φ Ψ : V → Hp → Prop} {E : XK}
def EvP (te : TE) (σ : L2.St) (H : Hp) (Φ : V → Hp → Prop) : Prop := ∀ H1, Ex H H1 → ∀ Q : VK, (∀ v H2, Ex H1 H2 → Φ v H2 → Q v H2) → te σ H1 Q
theorem EvP.mono (h : EvP te σ H Φ) (e : Ex H H') : EvP te σ H' Φ := fun H1 a Q q => h H1 (e.trans a) Q q
theorem EvP.imp (h : EvP te σ H Φ) (k : ∀ v H2, Ex H H2 → Φ v H2 → Ψ v H2) : EvP te σ H Ψ := fun H1 a Q q => h H1 a Q fun v H2 e f => q v H2 e (k v H2 (a.trans e) f)
theorem ep_ev (h : Ev te σ H v) (k : ∀ H2, Ex H H2 → Φ v H2) : EvP te σ H Φ := fun H1 a Q q => h H1 a Q fun H2 e => q v H2 e (k H2 (a.trans e))
theorem ep_el {xs : List V} (h : EvL te σ H xs) (k : ∀ p H2, Ex H H2 → H2 p = some (.lst xs) → Φ (.ref p) H2) : EvP te σ H Φ := fun H1 a Q q => h H1 a Q fun p H2 _ e hp => q _ H2 e (k p H2 (a.trans e) hp)
theorem ep_call1 {sp : Sp} (h : EvP tx σ H Φ) (k : ∀ v H2, Ex H H2 → Φ v H2 → ∀ Q : VK, (∀ w H3, Ex H2 H3 → Ψ w H3 → Q w H3) → sp [v] H2 Q E) : EvP (tCall sp [] E (tCons tx tNil)) σ H Ψ := fun H1 a Q q =>
  h H1 a _ fun v H2 e f => k v H2 (a.trans e) f Q fun w H3 e3 g => q w H3 (e.trans e3) g
/-- data -/
def DP (K : PySem.W.Frag) (d : PyData) (v : V) (H : Hp) : Prop := Dp K H v d
theorem ep_dp {d : PyData} (h : Ev te σ H v) (hd : Dp K H v d) : EvP te σ H (DP K d) := ep_ev h fun _ e => dp_ex e d v hd
theorem ev_same {d : PyData} {n : Nat} (hx : EvP tx σ H (DP K d)) (hy : EvP ty σ H (DP K d)) (hf : fit d n = true) : Ev (tCall (spSame K (n + 1)) [] E (tCons tx (tCons ty tNil))) σ H (.bl true) := fun H1 a Q q =>
  hx H1 a _ fun x H2 e2 dx => hy H2 (a.trans e2) _ fun y H3 e3 dy => ⟨x, y, d, d, n, rfl, rfl, dp_ex e3 d x dx, dy, hf, hf, fun H4 e4 => by
    rw [sm_refl d n hf]
    exact q H4 ((e2.trans e3).trans e4)⟩
/-- if not same(..): return False -/
theorem q_same {D : Ends} {d : PyData} {n : Nat} {tr tz : TS} (hx : EvP tx σ H (DP K d)) (hy : EvP ty σ H (DP K d)) (hf : fit d n = true) (k : ∀ H1, Ex H H1 → tz D σ H1) :
    tSeq (tIfS (tNot (tB (tCall (spSame K (n + 1)) [] E (tCons tx (tCons ty tNil))))) tr tNext) tz D σ H :=
  q_when (et_not (et_B (ev_same hx hy hf))) (fun h => (nomatch h)) fun _ H1 e => k H1 e
/-- a list of ints -/
def IL (K : PySem.W.Frag) (l : List Int) (v : V) (H : Hp) : Prop := ∃ a, v = .ref a ∧ SqL K H a (l.map V.int)
abbrev LI (l : List Int) : PyData := .list (l.map PyData.int)
theorem ep_il {a : Addr} {l : List Int} (h : Ev te σ H (.ref a)) (hS : SqL K H a (l.map V.int)) : EvP te σ H (IL K l) := ep_ev h fun _ e => ⟨a, rfl, ex_l e hS⟩
theorem il_el {l : List Int} (h : EvL te σ H (l.map V.int)) : EvP te σ H (IL K l) := ep_el h fun p H2 _ hp => ⟨p, rfl, sq_of hp⟩
theorem il_dp {l : List Int} (h : EvP te σ H (IL K l)) : EvP te σ H (DP K (LI l)) := h.imp fun v H2 _ f => by
  obtain ⟨a, rfl, hS⟩ := f
  exact .lst hS (dpa_ints l)
theorem fit_LI {l : List Int} {n : Nat} (h : l.length ≤ 10000) : fit (LI l) (n + 1) = true := by
  rw [fit, fit_ints, Bool.and_true, decide_eq_true_eq, List.length_map]
  exact h
theorem q_run {i : Nat} {tz : TS} {D : Ends} (h : te σ H fun v H1 => tz D (σ.set i (some v)) H1) : tSeq (tAsg te (gName i)) tz D σ H := h
end
/-! ### matrices -/
/-- the sum of f over the numbers below n -/
def S : Nat → (Nat → Int) → Int
  | 0, _ => 0
  | n + 1, f => S n f + f n
theorem S_map (f : Nat → Int) : ∀ n, ((List.range n).map f).sum = S n f
  | 0 => rfl
  | n + 1 => by
    rw [List.range_succ, List.map_append, List.sum_append, S_map f n]
    simp [S]
theorem S_congr {f g : Nat → Int} : ∀ n, (∀ k, k < n → f k = g k) → S n f = S n g
  | 0, _ => rfl
  | n + 1, h => by
    rw [S, S, S_congr n fun k hk => h k (by omega), h n (by omega)]
theorem S_zero : ∀ n, S n (fun _ => 0) = 0
  | 0 => rfl
  | n + 1 => by rw [S, S_zero n]; rfl
theorem S_add {f g : Nat → Int} : ∀ n, S n (fun k => f k + g k) = S n f + S n g
  | 0 => rfl
  | n + 1 => by
    rw [S, S, S, S_add n]; omega
theorem S_mulL {f : Nat → Int} (c : Int) : ∀ n, S n (fun k => c * f k) = c * S n f
  | 0 => by simp [S]
  | n + 1 => by rw [S, S, S_mulL c n, Int.mul_add]
theorem S_mulR {f : Nat → Int} (c : Int) : ∀ n, S n (fun k => f k * c) = S n f * c
  | 0 => by simp [S]
  | n + 1 => by rw [S, S, S_mulR c n, Int.add_mul]
theorem S_swap {f : Nat → Nat → Int} (m : Nat) : ∀ n, S n (fun i => S m (fun j => f i j)) = S m (fun j => S n (fun i => f i j))
  | 0 => (S_zero m).symm
  | n + 1 => by
    rw [S, S_swap m n]
    rw [← S_add]
    rfl
/-- the sum in which one turn alone counts -/
theorem S_one {f : Nat → Int} {c : Nat} : ∀ n, c < n → (∀ k, k < n → k ≠ c → f k = 0) → S n f = f c
  | n + 1, hc, h => by
    rw [S]
    by_cases e : c = n
    · subst e
      rw [S_congr (g := fun _ => 0) c fun k hk => h k (by omega) (by omega), S_zero]
      omega
    · rw [S_one n (by omega) fun k hk => h k (by omega), h n (by omega) (fun z => e z.symm)]
      omega
/-- a table of rows -/
def tab (w : Nat) (f : Nat → Nat → Int) : List Int := (List.range (w * w)).map fun n => f (n / w) (n % w)
theorem tab_len (w : Nat) (f : Nat → Nat → Int) : (tab w f).length = w * w := by simp [tab]
theorem row_lt {w r c : Nat} (hr : r < w) (hc : c < w) : w * r + c < w * w := by
  have h : w * (r + 1) ≤ w * w := Nat.mul_le_mul_left w hr
  rw [Nat.mul_succ] at h
  omega
theorem row_div {w r c : Nat} (hc : c < w) : (w * r + c) / w = r := by
  rw [Nat.mul_add_div (by omega), Nat.div_eq_of_lt hc, Nat.add_zero]
theorem row_mod {w r c : Nat} (hc : c < w) : (w * r + c) % w = c := by
  rw [Nat.mul_add_mod, Nat.mod_eq_of_lt hc]
theorem tab_get {w r c : Nat} (f : Nat → Nat → Int) (hr : r < w) (hc : c < w) : (tab w f).getD (w * r + c) 0 = f r c := by
  have h := row_lt hr hc
  rw [List.getD_eq_getElem?_getD, tab, List.getElem?_map, List.getElem?_range h]
  show f ((w * r + c) / w) ((w * r + c) % w) = f r c
  rw [row_div hc, row_mod hc]
theorem tab_congr {w : Nat} {f g : Nat → Nat → Int} (h : ∀ r c, r < w → c < w → f r c = g r c) : tab w f = tab w g := by
  unfold tab
  refine List.map_congr_left fun n hn => ?_
  have hn : n < w * w := List.mem_range.mp hn
  have hw : 0 < w := by
    rcases Nat.eq_zero_or_pos w with e | e
    · subst e; simp at hn
    · exact e
  exact h _ _ (Nat.div_lt_of_lt_mul hn) (Nat.mod_lt _ hw)
/-- a list of w * w numbers is the table of its numbers -/
theorem tab_self {w : Nat} {l : List Int} (h : l.length = w * w) : tab w (fun r c => l.getD (w * r + c) 0) = l := by
  refine List.ext_getElem? fun n => ?_
  by_cases hn : n < w * w
  · rw [tab, List.getElem?_map, List.getElem?_range hn]
    show some (l.getD (w * (n / w) + n % w) 0) = l[n]?
    rw [Nat.div_add_mod, List.getElem?_eq_getElem (by omega), List.getD_eq_getElem?_getD, List.getElem?_eq_getElem (by omega)]
    rfl
  · rw [List.getElem?_eq_none (by rw [tab_len]; omega), List.getElem?_eq_none (by omega)]
/-- a number of the composition -/
def ent (w : Nat) (a b : List Int) (r c : Nat) : Int := S w fun k => b.getD (w * r + k) 0 * a.getD (w * k + c) 0
def comp (w : Nat) (a b : List Int) : List Int := tab w (ent w a b)
def appR (w : Nat) (a v : List Int) (r : Nat) : Int := S w fun k => a.getD (w * r + k) 0 * v.getD k 0
def app (w : Nat) (a v : List Int) : List Int := (List.range w).map (appR w a v)
theorem app_get {w r : Nat} (a v : List Int) (hr : r < w) : (app w a v).getD r 0 = appR w a v r := by
  rw [List.getD_eq_getElem?_getD, app, List.getElem?_map, List.getElem?_range hr]
  rfl
theorem comp_assoc (w : Nat) (a b c : List Int) : comp w (comp w a b) c = comp w a (comp w b c) := by
  refine tab_congr fun r k hr hk => ?_
  unfold ent
  have e1 : S w (fun j => c.getD (w * r + j) 0 * (comp w a b).getD (w * j + k) 0) = S w (fun j => S w fun i => c.getD (w * r + j) 0 * (b.getD (w * j + i) 0 * a.getD (w * i + k) 0)) :=
    S_congr w fun j hj => by rw [comp, tab_get _ hj hk, ent, S_mulL]
  have e2 : S w (fun i => (comp w b c).getD (w * r + i) 0 * a.getD (w * i + k) 0) = S w (fun i => S w fun j => c.getD (w * r + j) 0 * (b.getD (w * j + i) 0 * a.getD (w * i + k) 0)) :=
    S_congr w fun i hi => by
      rw [comp, tab_get _ hr hi, ent, ← S_mulR]
      exact S_congr w fun j _ => Int.mul_assoc _ _ _
  rw [e1, e2, S_swap]
theorem app_comp (w : Nat) (a b v : List Int) : app w b (app w a v) = app w (comp w a b) v := by
  refine List.map_congr_left fun r hr => ?_
  have hr : r < w := List.mem_range.mp hr
  unfold appR
  have e1 : S w (fun k => b.getD (w * r + k) 0 * (app w a v).getD k 0) = S w (fun k => S w fun j => b.getD (w * r + k) 0 * (a.getD (w * k + j) 0 * v.getD j 0)) :=
    S_congr w fun k hk => by rw [app_get _ _ hk, appR, S_mulL]
  have e2 : S w (fun j => (comp w a b).getD (w * r + j) 0 * v.getD j 0) = S w (fun j => S w fun k => b.getD (w * r + k) 0 * (a.getD (w * k + j) 0 * v.getD j 0)) :=
    S_congr w fun j hj => by
      rw [comp, tab_get _ hr hj, ent, ← S_mulR]
      exact S_congr w fun k _ => Int.mul_assoc _ _ _
  rw [e1, e2, S_swap]
/-- the identity, as the law writes it -/
def unitI (w : Nat) : List Int := (List.range (w * w)).map fun n => if n % (w + 1) = 0 then 1 else 0
theorem unit_mod {w k c : Nat} (hk : k < w) (hc : c < w) : (w * k + c) % (w + 1) = 0 ↔ k = c := by
  constructor
  · intro h
    obtain ⟨m, hm⟩ := Nat.dvd_of_mod_eq_zero h
    -- w k + c = (w + 1) m
    rcases Nat.lt_trichotomy m k with h1 | h1 | h1
    · have h2 : (w + 1) * (m + 1) ≤ (w + 1) * k := Nat.mul_le_mul_left _ h1
      rw [Nat.mul_succ, Nat.succ_mul w k, ← hm] at h2
      omega
    · subst h1
      rw [Nat.succ_mul] at hm
      omega
    · have h2 : (w + 1) * (k + 1) ≤ (w + 1) * m := Nat.mul_le_mul_left _ h1
      rw [Nat.mul_succ, Nat.succ_mul w k, ← hm] at h2
      omega
  · rintro rfl
    rw [← Nat.succ_mul]
    exact Nat.mul_mod_right _ _
theorem unit_get {w k c : Nat} (hk : k < w) (hc : c < w) : (unitI w).getD (w * k + c) 0 = if k = c then 1 else 0 := by
  rw [List.getD_eq_getElem?_getD, unitI, List.getElem?_map, List.getElem?_range (row_lt hk hc)]
  show (if (w * k + c) % (w + 1) = 0 then (1 : Int) else 0) = _
  by_cases e : k = c
  · rw [if_pos ((unit_mod hk hc).mpr e), if_pos e]
  · rw [if_neg fun h => e ((unit_mod hk hc).mp h), if_neg e]
theorem comp_unitL {w : Nat} {a : List Int} (h : a.length = w * w) : comp w (unitI w) a = a := by
  refine Eq.trans (tab_congr fun r c hr hc => ?_) (tab_self h)
  unfold ent
  rw [S_one w hc fun k hk hn => by rw [unit_get hk hc, if_neg hn, Int.mul_zero], unit_get hc hc, if_pos rfl, Int.mul_one]
theorem comp_unitR {w : Nat} {a : List Int} (h : a.length = w * w) : comp w a (unitI w) = a := by
  refine Eq.trans (tab_congr fun r c hr hc => ?_) (tab_self h)
  unfold ent
  rw [S_one w hr fun k hk hn => by rw [unit_get hr hk, if_neg (fun z => hn z.symm), Int.zero_mul], unit_get hr hr, if_pos rfl, Int.one_mul]
/-! ### bounds -/
def Bd (n : Nat) (l : List Int) : Prop := ∀ x ∈ l, x.natAbs < 2 ^ n
theorem Bd.get {n : Nat} {l : List Int} (h : Bd n l) (i : Nat) : (l.getD i 0).natAbs < 2 ^ n := by
  rw [List.getD_eq_getElem?_getD]
  cases e : l[i]? with
  | none => exact Nat.two_pow_pos n
  | some x => exact h x (List.mem_of_getElem? e)
theorem S_bd {f : Nat → Int} {m : Nat} : ∀ n, (∀ k, k < n → (f k).natAbs < m) → (S n f).natAbs ≤ n * m
  | 0, _ => by simp [S]
  | n + 1, h => by
    have h1 := S_bd n fun k hk => h k (by omega)
    have h2 := h n (by omega)
    rw [S, Nat.succ_mul]
    omega
theorem S_bd2 {f : Nat → Int} {n a : Nat} (hn : n ≤ 7) (h : ∀ k, k < n → (f k).natAbs < 2 ^ a) : (S n f).natAbs < 2 ^ (a + 3) := by
  have h1 := S_bd n h
  have h2 : n * 2 ^ a ≤ 7 * 2 ^ a := Nat.mul_le_mul_right _ hn
  have h3 : 0 < 2 ^ a := Nat.two_pow_pos a
  rw [Nat.pow_add]
  omega
theorem mul_bd {x y : Int} {a b : Nat} (hx : x.natAbs < 2 ^ a) (hy : y.natAbs < 2 ^ b) : (x * y).natAbs < 2 ^ (a + b) := by
  rw [Int.natAbs_mul, Nat.pow_add]
  exact Nat.mul_lt_mul'' hx hy
theorem comp_bd {w na nb : Nat} {a b : List Int} (hw : w ≤ 7) (ha : Bd na a) (hb : Bd nb b) : Bd (nb + na + 3) (comp w a b) := fun x hx => by
  obtain ⟨n, _, rfl⟩ := List.mem_map.mp hx
  exact S_bd2 hw fun k _ => mul_bd (hb.get _) (ha.get _)
theorem app_bd {w na nv : Nat} {a v : List Int} (hw : w ≤ 7) (ha : Bd na a) (hv : Bd nv v) : Bd (na + nv + 3) (app w a v) := fun x hx => by
  obtain ⟨n, _, rfl⟩ := List.mem_map.mp hx
  exact S_bd2 hw fun k _ => mul_bd (ha.get _) (hv.get _)
theorem comp_len (w : Nat) (a b : List Int) : (comp w a b).length = w * w := tab_len w _
theorem app_len (w : Nat) (a v : List Int) : (app w a v).length = w := by simp [app]
theorem unit_len (w : Nat) : (unitI w).length = w * w := by simp [unitI]
theorem unit_bd (w : Nat) : Bd 1 (unitI w) := fun x hx => by
  obtain ⟨n, _, rfl⟩ := List.mem_map.mp hx
  split <;> decide
/-! ### a tuple as a comprehension's target -/
section
variable {X : Cx}
theorem pg_tupK {K : PySem.W.Frag} {es : List Expr} {n k : Nat} {pos : Pos} {t : TGs} (hK : X.K = K) (hc : X.calm = true) (h : PGs X es t)
    (hn : (assignEach es X.env).length = n := by rfl) (hst : (assignEach es X.env).findIdx? (·.1) = none := by rfl) : PG X (.Tuple es k pos) (gTup K n t) := by
  subst hK
  exact pg_tup hc h hn hst
end
abbrev scomposed : Stmt := topS 1
theorem sccomposed : FnScope ["width", "one", "other", "rows", "result", "start", "total", "factor", "row", "number", "more"] ["width", "one", "other"] (defScope scomposed) := ⟨rfl, rfl, rfl, by decide +kernel, rfl, by decide +kernel, by decide +kernel⟩
abbrev sapplied : Stmt := topS 2
theorem scapplied : FnScope ["width", "matrix", "vector", "row", "column"] ["width", "matrix", "vector"] (defScope sapplied) := ⟨rfl, rfl, rfl, by decide +kernel, rfl, by decide +kernel, by decide +kernel⟩
abbrev s_law_matrix : Stmt := topS 8
theorem sc_law_matrix : FnScope ["pool", "width", "at"] ["pool", "width"] (defScope s_law_matrix) := ⟨rfl, rfl, rfl, by decide +kernel, rfl, by decide +kernel, by decide +kernel⟩
abbrev s_law_times : Stmt := topS 9
theorem sc_law_times : FnScope ["width", "one", "other", "found", "i", "j", "k"] ["width", "one", "other"] (defScope s_law_times) := ⟨rfl, rfl, rfl, by decide +kernel, rfl, by decide +kernel, by decide +kernel⟩
abbrev s_law_image : Stmt := topS 10
theorem sc_law_image : FnScope ["width", "matrix", "vector", "found", "i", "total", "j"] ["width", "matrix", "vector"] (defScope s_law_image) := ⟨rfl, rfl, rfl, by decide +kernel, rfl, by decide +kernel, by decide +kernel⟩
abbrev slaw : Stmt := topS 11
theorem sclaw : FnScope ["script", "pool", "width", "one", "two", "three", "vector", "passed", "both", "behind", "left", "unit", "told", "k", "at"] ["script"] (defScope slaw) := ⟨rfl, rfl, rfl, by decide +kernel, rfl, by decide +kernel, by decide +kernel⟩
section
variable {P : Program} {w : World} {K : PySem.W.Frag} {mg : Str → Option Value} {base : Heap}
/-- two matrices (or a matrix and a vector) are read, a new list is made -/
def spTwo (K : PySem.W.Frag) (la lb : Nat → Nat) (g : Nat → List Int → List Int → List Int) : Sp := fun vs H Q _ => ∃ (n : Nat) (a b : Addr) (A B : List Int) (na nb : Nat), vs = [.int (n : Int), .ref a, .ref b] ∧ (1 ≤ n ∧ n ≤ 7) ∧ SqL K H a (A.map V.int) ∧ SqL K H b (B.map V.int) ∧
  A.length = la n ∧ B.length = lb n ∧ Bd na A ∧ Bd nb B ∧ 0 < na ∧ 0 < nb ∧ na + nb ≤ 1000000 ∧ ∀ p H', H p = none → Ex H H' → H' p = some (.lst ((g n A B).map V.int)) → Q (.ref p) H'
abbrev sq (n : Nat) : Nat := n * n
abbrev one1 (n : Nat) : Nat := n
abbrev spComp (K : PySem.W.Frag) : Sp := spTwo K sq sq comp
abbrev spApp (K : PySem.W.Frag) : Sp := spTwo K sq one1 app
theorem int_row (n r k : Nat) : (n : Int) * (r : Int) + (k : Int) = ((n * r + k : Nat) : Int) := by
  rw [Int.natCast_add, Int.natCast_mul]
theorem small_mul {n : Nat} {j : Int} (h : n ≤ 100) : CMul (n : Int) j := .inl ⟨by omega, by omega⟩
theorem at_row {A : List Int} {i : Nat} (h : i < A.length) : (A.map V.int)[i]? = some (.int (A.getD i 0)) := by
  rw [List.getElem?_map, List.getElem?_eq_getElem h, List.getD_eq_getElem?_getD, List.getElem?_eq_getElem h]
  rfl
theorem map_S (n : Nat) (f : Nat → Int) : (List.range n).map (fun k => V.int (f k)) = ((List.range n).map f).map V.int := by
  rw [List.map_map]; rfl
/-- the item of a list of ints at a place reckoned as n * r + k -/
theorem ev_row {σ : L2.St} {H : Hp} {tl tn tr tk : TE} {a : Addr} {A : List Int} {n r k : Nat} (hl : Ev tl σ H (.ref a)) (hS : SqL K H a (A.map V.int)) (hn : Ev tn σ H (.int (n : Int))) (hr : Ev tr σ H (.int (r : Int))) (hk : Ev tk σ H (.int (k : Int)))
    (h7 : n ≤ 100) (hi : n * r + k < A.length) : Ev (tOp (rIxL K) tl (tOp (rI0 fun i j => .int (i + j)) (tOp (rI CMul fun i j => .int (i * j)) tn tr) tk)) σ H (.int (A.getD (n * r + k) 0)) :=
  ev_op hl (ev_op (ev_op hn hr (rv_I (small_mul h7))) hk rv_I0) (rv_ixL hS (at_of (int_row n r k) (at_row hi)))
theorem ev_item {σ : L2.St} {H : Hp} {tl tk : TE} {a : Addr} {A : List Int} {k : Nat} (hl : Ev tl σ H (.ref a)) (hS : SqL K H a (A.map V.int)) (hk : Ev tk σ H (.int (k : Int))) (hi : k < A.length) : Ev (tOp (rIxL K) tl tk) σ H (.int (A.getD k 0)) :=
  ev_op hl hk (rv_ixL hS (at_of rfl (at_row hi)))
theorem rv_mulW {i j : Int} {H : Hp} (h : CMulW i j) : RV (rI CMulW fun i j => .int (i * j)) (.int i) (.int j) H (.int (i * j)) := rv_I h
theorem wide_of {x y : Int} {a b : Nat} (hx : x.natAbs < 2 ^ a) (hy : y.natAbs < 2 ^ b) (h0 : 0 < a) (h1 : 0 < b) (h : a + b ≤ 1000000) : CMulW x y := wide_mul hx hy h0 h1 h
theorem comp_list (n : Nat) (A B : List Int) : ((List.range (n * n)).map fun m => V.int (S n fun k => B.getD (n * (m / n) + k) 0 * A.getD (n * k + m % n) 0)) = (comp n A B).map V.int := by
  rw [comp, tab, List.map_map]; rfl
theorem ok_applied {f : Addr} {fd : FuncData} {k : Nat} (F : Fun K "applied" "applied" sapplied f fd) (z_range : mg "range" = none) (z_sum : mg "sum" = none) : FnOk P w K mg base CX0 (k + 1) f fd ["width", "matrix", "vector"] (spApp K) := by
  have sc := scapplied
  refine F.ok sc (fun vs H Q E h => ?_) (fun cdv A outer s H vs Q E hr h => ?_)
  · obtain ⟨n, a, b, A, B, na, nb, rfl, _⟩ := h
    rfl
  · obtain ⟨n, a, b, A, B, na, nb, rfl, h7, hA, hB, lA, lB, bA, bB, na0, nb0, hab, q⟩ := h
    refine ⟨_, (pss_one (ps_ret (pe_lc (own := [("row", 3)]) (by rfl) sc.nd (pi_range1 (by rfl) z_range (pa_cons (pv 0) pa_nil)) (blkOk_by (own := [("row", 3)]) (N := ["width", "matrix", "vector", "row", "column"]) (sc := defScope sapplied) (by decide +kernel)) (fun _ _ _ _ _ => (pg_name (i := 3) sc.nd rfl (by first | exact Or.inl rfl | exact Or.inr rfl))) (fun _ _ _ _ _ => pts_nil) (fun _ _ _ _ _ => (pe_callB ((cr_sum rfl) : CallR _ (.builtin "sum") (rSum K)) (by rfl) z_sum (by decide +kernel) (pa_cons (pe_lc (own := [("column", 4)]) (by rfl) sc.nd (pi_range1 (by rfl) z_range (pa_cons (pv 0) pa_nil)) (blkOk_by (own := [("column", 4)]) (N := ["width", "matrix", "vector", "row", "column"]) (by rfl)) (fun _ _ _ _ _ => (pg_name (i := 4) sc.nd rfl (by first | exact Or.inl rfl | exact Or.inr rfl))) (fun _ _ _ _ _ => pts_nil) (fun _ _ _ _ _ => (pe_op op_mulW (pe_ix (ix_list : IxR _ (rIxL K)) (pv 1) (pe_op op_add (pe_op op_mul (pv 0) (pv 3)) (pv 4)) (fun _ _ => rfl)) (pe_ix (ix_list : IxR _ (rIxL K)) (pv 2) (pv 4) (fun _ _ => rfl))))) pa_nil)))))), ?_⟩
    refine s_retL (el_rng (n := n) (fun r => .int (S n fun k => A.getD (n * r + k) 0 * B.getD k 0)) (ea_cons (ev_var rfl) ea_nil) (by omega) (fun _ => rfl) (fun r H1 e1 hr => ?_)) fun p H1 hp e1 h1 => q p H1 hp e1 (by rw [h1, app, List.map_map]; rfl)
    refine ev_is (ev_sumN (K := K) (ns := (List.range n).map fun k => A.getD (n * r + k) 0 * B.getD k 0) (el_is (el_rng (σ := [some (.int (n : Int)), some (.ref a), some (.ref b), some (.int (r : Int)), none]) (H := H1) (fun k => .int (A.getD (n * r + k) 0 * B.getD k 0)) (ea_cons (ev_var rfl) ea_nil) (by omega) (fun _ => rfl) (fun k H2 e2 hk => 
      ev_op (ev_row (n := n) (r := r) (k := k) (ev_var rfl) (ex_l (e1.trans e2) hA) (ev_var rfl) (ev_var rfl) (ev_var rfl) (by omega) (by rw [lA]; exact row_lt hr hk)) (ev_item (k := k) (ev_var rfl) (ex_l (e1.trans e2) hB) (ev_var rfl) (by rw [lB]; exact hk)) (rv_mulW (wide_of (bA.get _) (bB.get _) na0 nb0 hab)))) (map_S n _))) (congrArg V.int (S_map _ n))
theorem times_step {n i j : Nat} (f : Nat → Nat → Int) (hj : j < n) : ((List.range (i * n + j)).map fun m => V.int (f (m / n) (m % n))) ++ [V.int (f i j)] = (List.range (i * n + (j + 1))).map fun m => V.int (f (m / n) (m % n)) := by
  have h1 : (i * n + j) / n = i := by rw [Nat.mul_comm, Nat.mul_add_div (by omega), Nat.div_eq_of_lt hj, Nat.add_zero]
  have h2 : (i * n + j) % n = j := by rw [Nat.mul_comm, Nat.mul_add_mod, Nat.mod_eq_of_lt hj]
  rw [← Nat.add_assoc, List.range_succ, List.map_append, List.map_singleton, h1, h2]
theorem ok_times {f : Addr} {fd : FuncData} {k : Nat} (F : Fun K "_law_times" "_law_times" s_law_times f fd) (z_range : mg "range" = none) (z_sum : mg "sum" = none) : FnOk P w K mg base CX0 (k + 1) f fd ["width", "one", "other"] (spComp K) := by
  have sc := sc_law_times
  refine F.ok sc (fun vs H Q E h => ?_) (fun cdv A outer s H vs Q E hr h => ?_)
  · obtain ⟨n, a, b, A, B, na, nb, rfl, _⟩ := h
    rfl
  · obtain ⟨n, a, b, A, B, na, nb, rfl, h7, hA, hB, lA, lB, bA, bB, na0, nb0, hab, q⟩ := h
    refine ⟨_, (pss_cons (ps_set (i := 3) sc.nd rfl (by first | exact Or.inl rfl | exact Or.inr rfl) (pe_lst pa_nil))
      (pss_cons (ps_for PassesOwn.never rfl (pi_range1 (by rfl) z_range (pa_cons (pv 0) pa_nil)) (pg_name (i := 4) sc.nd rfl (by first | exact Or.inl rfl | exact Or.inr rfl))
      (pss_one (ps_for PassesOwn.never rfl (pi_range1 (by rfl) z_range (pa_cons (pv 0) pa_nil)) (pg_name (i := 5) sc.nd rfl (by first | exact Or.inl rfl | exact Or.inr rfl))
      (pss_one (ps_expr (pe_bm PySem.F.plainAttrs_list PySem.F.slot_list_append PySem.F.type_list_append mt_append (pv 3) (pa_cons (pe_callB (cr_sum rfl) (by rfl) z_sum (by decide +kernel) (pa_cons (pe_lc (own := [("k", 6)]) (by rfl) sc.nd (pi_range1 (by rfl) z_range (pa_cons (pv 0) pa_nil)) (blkOk_by (own := [("k", 6)]) (N := ["width", "one", "other", "found", "i", "j", "k"]) (sc := defScope s_law_times) (by decide +kernel)) (fun _ _ _ _ _ => (pg_name (i := 6) sc.nd rfl (by first | exact Or.inl rfl | exact Or.inr rfl))) (fun _ _ _ _ _ => pts_nil) (fun _ _ _ _ _ => (pe_op op_mulW (pe_ix (ix_list : IxR _ (rIxL K)) (pv 2) (pe_op op_add (pe_op op_mul (pv 0) (pv 4)) (pv 6)) (fun _ _ => rfl)) (pe_ix (ix_list : IxR _ (rIxL K)) (pv 1) (pe_op op_add (pe_op op_mul (pv 0) (pv 6)) (pv 5)) (fun _ _ => rfl))))) pa_nil)) pa_nil)))))))
      (pss_one (ps_ret (pv 3))))), ?_⟩
    refine q_asgL (el_lst ea_nil (by decide)) fun p H1 np e1 hp => ?_
    refine q_forR1 (n := (n : Int)) (ea_cons (ev_var rfl) ea_nil) ⟨by omega, by omega⟩ (fun i σ' H' => ∃ y4 y5, σ' = [some (.int (n : Int)), some (.ref a), some (.ref b), some (.ref p), y4, y5, none] ∧ Ex H H' ∧ H' p = some (.lst ((List.range (i * n)).map fun m => V.int (ent n A B (m / n) (m % n)))))
      (fun H2 e2 => ⟨_, _, rfl, e1.trans e2, by rw [e2 _ _ hp, Nat.zero_mul]; rfl⟩) (fun i σ' H' hi hW => ?_) (fun σ' H' hW => ?_)
    · obtain ⟨y4, y5, rfl, e2, hp⟩ := hW
      have hi : i < n := by omega
      refine s_forR1 (n := (n : Int)) (ea_cons (ev_var rfl) ea_nil) ⟨by omega, by omega⟩ (fun j σ' H' => ∃ y5, σ' = [some (.int (n : Int)), some (.ref a), some (.ref b), some (.ref p), some (.int (i : Int)), y5, none] ∧ Ex H H' ∧ H' p = some (.lst ((List.range (i * n + j)).map fun m => V.int (ent n A B (m / n) (m % n)))))
        (fun H2 e3 => ⟨_, rfl, e2.trans e3, e3 _ _ hp⟩) (fun j σ' H' hj hW => ?_) (fun σ' H' hW => ?_)
      · obtain ⟨y5, rfl, e2, hp⟩ := hW
        have hj : j < n := by omega
        have hh : i * n + j < 10000 := by
          have : i * n ≤ 7 * 7 := Nat.mul_le_mul (by omega) h7.2
          omega
        refine s_app (v := .int (ent n A B i j)) hp (ev_var rfl) (ev_is (ev_sumN (K := K) (ns := (List.range n).map fun k => B.getD (n * i + k) 0 * A.getD (n * k + j) 0) (el_is (el_rng (σ := [some (.int (n : Int)), some (.ref a), some (.ref b), some (.ref p), some (.int (i : Int)), some (.int (j : Int)), none]) (H := H') (fun k => .int (B.getD (n * i + k) 0 * A.getD (n * k + j) 0)) (ea_cons (ev_var rfl) ea_nil) (by omega) (fun _ => rfl) (fun k H2 e3 hk => 
          ev_op (ev_row (n := n) (r := i) (k := k) (ev_var rfl) (ex_l (e2.trans e3) hB) (ev_var rfl) (ev_var rfl) (ev_var rfl) (by omega) (by rw [lB]; exact row_lt hi hk)) (ev_row (n := n) (r := k) (k := j) (ev_var rfl) (ex_l (e2.trans e3) hA) (ev_var rfl) (ev_var rfl) (ev_var rfl) (by omega) (by rw [lA]; exact row_lt hk hj)) (rv_mulW (wide_of (bB.get _) (bA.get _) nb0 na0 (by omega))))) (map_S n _))) (congrArg V.int (S_map _ n))) (by rw [List.length_map, List.length_range]; omega) fun H3 e3 => ⟨_, rfl, (e2.trans e3).mut np, ?_⟩
        rw [upd_same]
        exact congrArg (fun l => some (HO.lst l)) (times_step (ent n A B) hj)
      · obtain ⟨y5, rfl, e2, hp⟩ := hW
        refine ⟨_, _, rfl, e2, ?_⟩
        rw [hp, Int.toNat_natCast, Nat.succ_mul]
    · obtain ⟨y4, y5, rfl, e2, hp⟩ := hW
      refine s_ret (ev_var rfl) fun H2 e3 => q p H2 np (e2.trans e3) ?_
      rw [e3 _ _ hp, Int.toNat_natCast]
      exact congrArg (fun l => some (HO.lst l)) (comp_list n A B)
theorem app_step (n : Nat) (A B : List Int) (i : Nat) : ((List.range i).map fun r => V.int (appR n A B r)) ++ [V.int (appR n A B i)] = (List.range (i + 1)).map fun r => V.int (appR n A B r) := by
  rw [List.range_succ, List.map_append, List.map_singleton]
theorem ok_image {f : Addr} {fd : FuncData} {k : Nat} (F : Fun K "_law_image" "_law_image" s_law_image f fd) (z_range : mg "range" = none) : FnOk P w K mg base CX0 (k + 1) f fd ["width", "matrix", "vector"] (spApp K) := by
  have sc := sc_law_image
  refine F.ok sc (fun vs H Q E h => ?_) (fun cdv A outer s H vs Q E hr h => ?_)
  · obtain ⟨n, a, b, A, B, na, nb, rfl, _⟩ := h
    rfl
  · obtain ⟨n, a, b, A, B, na, nb, rfl, h7, hA, hB, lA, lB, bA, bB, na0, nb0, hab, q⟩ := h
    refine ⟨_, (pss_cons (ps_set (i := 3) sc.nd rfl (by first | exact Or.inl rfl | exact Or.inr rfl) (pe_lst pa_nil))
      (pss_cons (ps_for PassesOwn.never rfl (pi_range1 (by rfl) z_range (pa_cons (pv 0) pa_nil)) (pg_name (i := 4) sc.nd rfl (by first | exact Or.inl rfl | exact Or.inr rfl))
      (pss_cons (ps_set (i := 5) sc.nd rfl (by first | exact Or.inl rfl | exact Or.inr rfl) pe_int)
      (pss_cons (ps_for PassesOwn.never rfl (pi_range1 (by rfl) z_range (pa_cons (pv 0) pa_nil)) (pg_name (i := 6) sc.nd rfl (by first | exact Or.inl rfl | exact Or.inr rfl))
      (pss_one (ps_set (i := 5) sc.nd rfl (by first | exact Or.inl rfl | exact Or.inr rfl) (pe_op op_add (pv 5) (pe_op op_mulW (pe_ix ix_list (pv 1) (pe_op op_add (pe_op op_mul (pv 0) (pv 4)) (pv 6)) (fun _ _ => rfl)) (pe_ix ix_list (pv 2) (pv 6) (fun _ _ => rfl)))))))
      (pss_one (ps_expr (pe_bm PySem.F.plainAttrs_list PySem.F.slot_list_append PySem.F.type_list_append mt_append (pv 3) (pa_cons (pv 5) pa_nil)))))))
      (pss_one (ps_ret (pv 3))))), ?_⟩
    refine q_asgL (el_lst ea_nil (by decide)) fun p H1 np e1 hp => ?_
    refine q_forR1 (n := (n : Int)) (ea_cons (ev_var rfl) ea_nil) ⟨by omega, by omega⟩ (fun i σ' H' => ∃ y4 y5 y6, σ' = [some (.int (n : Int)), some (.ref a), some (.ref b), some (.ref p), y4, y5, y6] ∧ Ex H H' ∧ H' p = some (.lst ((List.range i).map fun r => V.int (appR n A B r))))
      (fun H2 e2 => ⟨_, _, _, rfl, e1.trans e2, by rw [e2 _ _ hp]; rfl⟩) (fun i σ' H' hi hW => ?_) (fun σ' H' hW => ?_)
    · obtain ⟨y4, y5, y6, rfl, e2, hp⟩ := hW
      have hi : i < n := by omega
      refine q_asg ev_c fun H2 e3 => ?_
      refine q_forR1 (n := (n : Int)) (ea_cons (ev_var rfl) ea_nil) ⟨by omega, by omega⟩ (fun j σ' H' => ∃ y6, σ' = [some (.int (n : Int)), some (.ref a), some (.ref b), some (.ref p), some (.int (i : Int)), some (.int (S j fun k => A.getD (n * i + k) 0 * B.getD k 0)), y6] ∧ Ex H H' ∧ H' p = some (.lst ((List.range i).map fun r => V.int (appR n A B r))))
        (fun H4 e4 => ⟨_, rfl, (e2.trans e3).trans e4, e4 _ _ (e3 _ _ hp)⟩) (fun j σ' H' hj hW => ?_) (fun σ' H' hW => ?_)
      · obtain ⟨y6, rfl, e2, hp⟩ := hW
        have hj : j < n := by omega
        exact s_asg (ev_op (ev_var rfl) (ev_op (ev_row (n := n) (r := i) (k := j) (ev_var rfl) (ex_l e2 hA) (ev_var rfl) (ev_var rfl) (ev_var rfl) (by omega) (by rw [lA]; exact row_lt hi hj)) (ev_item (k := j) (ev_var rfl) (ex_l e2 hB) (ev_var rfl) (by rw [lB]; exact hj)) (rv_mulW (wide_of (bA.get _) (bB.get _) na0 nb0 hab))) rv_I0) fun H3 e3 => ⟨_, rfl, e2.trans e3, e3 _ _ hp⟩
      · obtain ⟨y6, rfl, e2, hp⟩ := hW
        refine s_app hp (ev_var rfl) (ev_var rfl) (by rw [List.length_map, List.length_range]; omega) fun H3 e3 => ⟨_, _, _, rfl, (e2.trans e3).mut np, ?_⟩
        rw [upd_same, Int.toNat_natCast]
        exact congrArg (fun l => some (HO.lst l)) (app_step n A B i)
    · obtain ⟨y4, y5, y6, rfl, e2, hp⟩ := hW
      refine s_ret (ev_var rfl) fun H2 e3 => q p H2 np (e2.trans e3) ?_
      rw [e3 _ _ hp, Int.toNat_natCast, app, List.map_map]
      rfl
end
/-! ### compositions, row by row -/
section
variable {P : Program} {w : World} {K : PySem.W.Frag} {mg : Str → Option Value} {base : Heap} {σ : L2.St} {H H' : Hp}
theorem rgc_sq {n : Nat} (h : 1 ≤ n ∧ n ≤ 7) : RgC 0 ((n : Int) * (n : Int)) (n : Int) n := by
  have : n = 1 ∨ n = 2 ∨ n = 3 ∨ n = 4 ∨ n = 5 ∨ n = 6 ∨ n = 7 := by omega
  rcases this with rfl | rfl | rfl | rfl | rfl | rfl | rfl <;> exact ⟨by decide, by decide, by decide +kernel, by decide +kernel⟩
def rowL (n : Nat) (A : List Int) (k : Nat) : List Int := (A.drop (n * k)).take n
theorem row_get {n k c : Nat} (A : List Int) (hc : c < n) : (rowL n A k).getD c 0 = A.getD (n * k + c) 0 := by
  rw [rowL, List.getD_eq_getElem?_getD, List.getD_eq_getElem?_getD, List.getElem?_take, if_pos hc, List.getElem?_drop]
theorem row_end {n k : Nat} (hk : k < n) : n * k + n ≤ n * n := by
  have h : n * (k + 1) ≤ n * n := Nat.mul_le_mul_left n hk
  rw [Nat.mul_succ] at h
  exact h
theorem row_len {n k : Nat} {A : List Int} (h : A.length = n * n) (hk : k < n) : (rowL n A k).length = n := by
  have := row_end hk
  rw [rowL, List.length_take, List.length_drop]
  omega
theorem cut_row {n k : Nat} {A : List Int} (h : A.length = n * n) (hk : k < n) : cutV (A.map V.int) (some (0 + (k : Nat) * (n : Int))) (some (0 + (k : Nat) * (n : Int) + (n : Int))) = (rowL n A k).map V.int := by
  have h1 := row_end hk
  have e1 : (0 : Int) + (k : Nat) * (n : Int) = ((n * k : Nat) : Int) := by rw [Int.zero_add, Nat.mul_comm, Int.natCast_mul]
  have e2 : ((n * k : Nat) : Int) + (n : Int) = ((n * k + n : Nat) : Int) := by rw [Int.natCast_add]
  rw [e1, e2]
  unfold cutV
  rw [show HT.sIx (A.map V.int).length 0 (some ((n * k : Nat) : Int)) = min (n * k) (A.map V.int).length from HT.sIx_nat _ _ _, show HT.sIx (A.map V.int).length (A.map V.int).length (some ((n * k + n : Nat) : Int)) = min (n * k + n) (A.map V.int).length from HT.sIx_nat _ _ _, List.length_map, Nat.min_eq_left (by omega), Nat.min_eq_left (by omega), rowL, List.map_take, List.map_drop, Nat.add_sub_cancel_left]
theorem nw_ne {p a : Addr} {o : HO} (h : H p = none) (ha : H a = some o) : p ≠ a := fun z => by rw [z, ha] at h; cases h
/-- the rows of a matrix, each a list of its own -/
def RowsAt (H : Hp) (D : Addr) (n : Nat) (A : List Int) (rs : List V) (i : Nat) : Prop := rs.length = i ∧ ∀ k, k < i → ∃ a, rs[k]? = some (.ref a) ∧ a ≠ D ∧ H a = some (.lst ((rowL n A k).map V.int))
theorem rows_ex {D : Addr} {n i : Nat} {A : List Int} {rs : List V} (e : Ex H H') (h : RowsAt H D n A rs i) : RowsAt H' D n A rs i := ⟨h.1, fun k hk => by
  obtain ⟨a, h1, h2, h3⟩ := h.2 k hk
  exact ⟨a, h1, h2, e _ _ h3⟩⟩
/-- what stands in the total behind k factors -/
def totL (n : Nat) (A B : List Int) (r k : Nat) : List Int := (List.range n).map fun c => S k fun j => B.getD (n * r + j) 0 * A.getD (n * j + c) 0
theorem tot_len (n : Nat) (A B : List Int) (r k : Nat) : (totL n A B r k).length = n := by simp [totL]
theorem tot_get {n c : Nat} (A B : List Int) (r k : Nat) (hc : c < n) : (totL n A B r k).getD c 0 = S k fun j => B.getD (n * r + j) 0 * A.getD (n * j + c) 0 := by
  rw [List.getD_eq_getElem?_getD, totL, List.getElem?_map, List.getElem?_range hc]; rfl
theorem tot_zero (n : Nat) (A B : List Int) (r : Nat) : (List.replicate ((n : Int)).toNat [V.int 0]).flatten = (totL n A B r 0).map V.int := by
  rw [Int.toNat_natCast]
  refine List.ext_getElem? fun i => ?_
  rw [show (List.replicate n [V.int 0]).flatten = List.replicate n (V.int 0) by
    clear i
    induction n with
    | zero => rfl
    | succ m ih => rw [List.replicate_succ, List.replicate_succ, List.flatten_cons, ih]; rfl]
  rw [List.getElem?_map, totL, List.getElem?_map]
  by_cases h : i < n
  · rw [List.getElem?_range h, List.getElem?_replicate, if_pos h]; rfl
  · rw [List.getElem?_replicate, if_neg h, List.getElem?_eq_none (by rw [List.length_range]; omega)]; rfl
theorem tot_skip {n r k : Nat} {A B : List Int} (h : B.getD (n * r + k) 0 = 0) : totL n A B r (k + 1) = totL n A B r k := by
  unfold totL
  refine List.map_congr_left fun c _ => ?_
  rw [S, h, Int.zero_mul, Int.add_zero]
theorem tot_step (n r k : Nat) (A B : List Int) : totL n A B r (k + 1) = (List.range n).map fun c => (totL n A B r k).getD c 0 + B.getD (n * r + k) 0 * (rowL n A k).getD c 0 := by
  unfold totL
  refine List.map_congr_left fun c hc => ?_
  have hc : c < n := List.mem_range.mp hc
  rw [S, row_get A hc, List.getD_eq_getElem?_getD (l := List.map _ _), List.getElem?_map, List.getElem?_range hc]
  rfl
/-- what stands in the result behind r rows -/
def resL (n : Nat) (A B : List Int) (r : Nat) : List Int := (List.range (r * n)).map fun m => ent n A B (m / n) (m % n)
theorem res_step {n : Nat} (A B : List Int) (r : Nat) (hn : 0 < n) : resL n A B (r + 1) = resL n A B r ++ totL n A B r n := by
  unfold resL
  rw [Nat.succ_mul, List.range_add, List.map_append, List.map_map]
  congr 1
  refine List.map_congr_left fun c hc => ?_
  have hc : c < n := List.mem_range.mp hc
  show ent n A B ((r * n + c) / n) ((r * n + c) % n) = _
  rw [Nat.mul_comm, Nat.mul_add_div hn, Nat.div_eq_of_lt hc, Nat.add_zero, Nat.mul_add_mod, Nat.mod_eq_of_lt hc]
  rfl
theorem res_end (n : Nat) (A B : List Int) : resL n A B n = comp n A B := rfl
theorem ok_composed {f : Addr} {fd : FuncData} {k : Nat} (F : Fun K "composed" "composed" scomposed f fd) (z_range : mg "range" = none) (z_zip : mg "zip" = none) : FnOk P w K mg base CX0 (k + 1) f fd ["width", "one", "other"] (spComp K) := by
  have sc := sccomposed
  refine F.ok sc (fun vs H Q E h => ?_) (fun cdv A outer s H vs Q E hr h => ?_)
  · obtain ⟨n, a, b, A, B, na, nb, rfl, _⟩ := h
    rfl
  · obtain ⟨n, a, b, A, B, na, nb, rfl, h7, hA, hB, lA, lB, bA, bB, na0, nb0, hab, q⟩ := h
    refine ⟨_, (pss_cons (ps_setLc (i := 3) (own := [("start", 5)]) (by rfl) sc.nd rfl rfl (sw_true rfl rfl rfl (by decide +kernel)) (pi_range3 (by rfl) z_range (pa_cons pe_int (pa_cons (pe_op op_mul (pv 0) (pv 0)) (pa_cons (pv 0) pa_nil)))) (blkOk_by (own := [("start", 5)]) (N := ["width", "one", "other", "rows", "result", "start", "total", "factor", "row", "number", "more"]) (sc := defScope scomposed) (by decide +kernel)) (fun _ _ _ _ _ => (pg_name (i := 5) sc.nd rfl (by first | exact Or.inl rfl | exact Or.inr rfl))) (fun _ _ _ _ _ => pts_nil) (fun _ _ _ _ _ => (pe_slice (sl_list : SlR _ (rSlL K)) (pv 1) (po_some (pv 5)) (po_some (pe_op op_add (pv 5) (pv 0))))))
      (pss_cons (ps_set (i := 4) sc.nd rfl (by first | exact Or.inl rfl | exact Or.inr rfl) (pe_lst pa_nil))
      (pss_cons (ps_for PassesOwn.never rfl (pi_range3 (by rfl) z_range (pa_cons pe_int (pa_cons (pe_op op_mul (pv 0) (pv 0)) (pa_cons (pv 0) pa_nil)))) (pg_name (i := 5) sc.nd rfl (by first | exact Or.inl rfl | exact Or.inr rfl))
      (pss_cons (ps_set (i := 6) sc.nd rfl (by first | exact Or.inl rfl | exact Or.inr rfl) (pe_op op_rep (pe_lst (pa_cons pe_int pa_nil)) (pv 0)))
      (pss_cons (ps_for PassesOwn.never rfl (pi_zip (by rfl) z_zip (pa_cons (pe_slice sl_list (pv 2) (po_some (pv 5)) (po_some (pe_op op_add (pv 5) (pv 0)))) (pa_cons (pv 3) pa_nil))) (pg_tup (by rfl) (pgs_cons (pg_name (i := 7) sc.nd rfl (by first | exact Or.inl rfl | exact Or.inr rfl)) (pgs_cons (pg_name (i := 8) sc.nd rfl (by first | exact Or.inl rfl | exact Or.inr rfl)) pgs_nil)))
      (pss_one (ps_if (pt_cmpR op_ne (pv 7) pe_int (nomark _))
      (pss_one (ps_setLc (i := 6) (own := [("number", 9), ("more", 10)]) (by rfl) sc.nd rfl rfl (sw_true rfl rfl rfl (by decide +kernel)) (pi_zip (by rfl) z_zip (pa_cons (pv 6) (pa_cons (pv 8) pa_nil))) (blkOk_by (own := [("number", 9), ("more", 10)]) (N := ["width", "one", "other", "rows", "result", "start", "total", "factor", "row", "number", "more"]) (sc := defScope scomposed) (by decide +kernel)) (fun _ _ _ _ _ => (pg_tupK (K := K) (n := 2) rfl rfl (pgs_cons (pg_name (i := 9) sc.nd rfl (by first | exact Or.inl rfl | exact Or.inr rfl)) (pgs_cons (pg_name (i := 10) sc.nd rfl (by first | exact Or.inl rfl | exact Or.inr rfl)) pgs_nil)))) (fun _ _ _ _ _ => pts_nil) (fun _ _ _ _ _ => (pe_op op_add (pv 9) (pe_op op_mulW (pv 7) (pv 10))))))
      pss_nil)))
      (pss_one (ps_expr (pe_bm PySem.F.plainAttrs_list PySem.F.slot_list_extend PySem.F.type_list_extend mt_extend (pv 4) (pa_cons (pv 6) pa_nil)))))))
      (pss_one (ps_ret (pv 4)))))), ?_⟩
    have hnn : n * n ≤ 49 := Nat.mul_le_mul h7.2 h7.2
    have n1 := h7.1
    have lA : A.length = n * n := lA
    have lB : B.length = n * n := lB
    -- the rows
    refine q_run ?_
    refine ⟨.int (n : Int), rfl, .int (n : Int), rfl, (n : Int), (n : Int), rfl, rfl, small_mul (by omega), .int (n : Int), rfl, 0, _, (n : Int), n, rfl, rgc_sq h7, fun D nD => ?_⟩
    refine lc_it walk_rangeC (fun i H' => ∃ rs, Ex H H' ∧ H' D = some (.lst rs) ∧ RowsAt H' D n A rs i) ⟨[], Ex.new nD, upd_same, rfl, fun k hk => absurd hk (by omega)⟩ (fun i H' _ _ => trivial) (fun i v H1 H2 hi hP y => ?_) (fun H1 hP => ?_)
    · obtain ⟨rs, e1, hD, hR⟩ := hP
      obtain ⟨rfl, rfl⟩ := y
      refine ⟨rfl, .ref a, rfl, _, rfl, _, rfl, _, rfl, .int (n : Int), rfl, _, _, rfl, rfl, _, rfl, a, A.map V.int, rfl, ex_l e1 hA, fun p np => ?_⟩
      rw [cut_row lA hi]
      have ep := Ex.new (o := .lst ((rowL n A i).map V.int)) np
      have pD : p ≠ D := nw_ne np hD
      refine ⟨rs, ep _ _ hD, sz_lt (by rw [hR.1]; omega), rs ++ [.ref p], (e1.trans ep).mut nD, upd_same, by rw [List.length_append, hR.1]; rfl, fun k hk => ?_⟩
      by_cases h : k < i
      · obtain ⟨a', h1, h2, h3⟩ := hR.2 k h
        exact ⟨a', by rw [List.getElem?_append_left (by rw [hR.1]; exact h)]; exact h1, h2, by rw [upd_ne h2]; exact ep _ _ h3⟩
      · have : k = i := by omega
        subst this
        exact ⟨p, by rw [List.getElem?_append_right (by rw [hR.1]; exact Nat.le_refl _), hR.1, Nat.sub_self]; rfl, pD, by rw [upd_ne pD]; exact upd_same⟩
    obtain ⟨rs, e1, hD, hR⟩ := hP
    -- result = []
    refine q_asgL (el_lst ea_nil (by decide)) fun R H2 nR e2 hR2 => ?_
    have e02 := e1.trans e2
    have hRw := rows_ex e2 hR
    have hDR := e2 _ _ hD
    have nR0 : H R = none := fresh_back e1 nR
    -- for start in range(0, width * width, width)
    refine ⟨.int (n : Int), rfl, .int (n : Int), rfl, (n : Int), (n : Int), rfl, rfl, small_mul (by omega), .int (n : Int), rfl, 0, _, (n : Int), n, rfl, rgc_sq h7, ?_⟩
    have hRne : ∀ k a', rs[k]? = some (V.ref a') → k < n → a' ≠ R := fun k a' h hk z => by
      obtain ⟨a2, h1, _, h3⟩ := hR.2 k hk
      rw [h] at h1
      cases h1
      rw [z, nR] at h3; cases h3
    have DR : D ≠ R := fun z => by rw [z, nR] at hD; cases hD
    refine for_it walk_rangeC (fun i σ' H' => ∃ x5 x6 x7 x8 : Option V, σ' = [some (.int (n : Int)), some (.ref a), some (.ref b), some (.ref D), some (.ref R), x5, x6, x7, x8, none, none] ∧ Ex H H' ∧ H' D = some (.lst rs) ∧ RowsAt H' D n A rs n ∧ H' R = some (.lst ((resL n A B i).map V.int)))
      ⟨none, none, none, none, rfl, e02, hDR, hRw, by rw [hR2, resL, Nat.zero_mul]; rfl⟩ (fun i σ' H' _ _ => trivial) (fun i v σ' Hx H3 hi hP y => ?_) (fun σ' H3 hP => ?_)
    · obtain ⟨x5, x6, x7, x8, rfl, eH, hD3, hR3, hRes⟩ := hP
      obtain ⟨rfl, rfl⟩ := y
      -- total
      refine q_run ?_
      refine ⟨by decide, fun Z nZ => ?_⟩
      refine ⟨.int (n : Int), rfl, Z, (n : Int), [.int 0], rfl, rfl, upd_same, by omega, by omega, sz_of (by rw [Int.toNat_natCast, List.length_singleton]; omega), fun T nT => ?_⟩
      rw [tot_zero n A B i]
      have eZ := Ex.new (o := .lst [.int 0]) nZ
      have eT := Ex.new (o := .lst ((totL n A B i 0).map V.int)) nT
      have eZT := eZ.trans eT
      -- the walk
      refine ⟨.ref b, rfl, _, rfl, _, rfl, _, rfl, .int (n : Int), rfl, _, _, rfl, rfl, _, rfl, b, B.map V.int, rfl, ex_l (eH.trans eZT) hB, fun Y nY => ?_⟩
      rw [cut_row lB hi]
      have eY := Ex.new (o := .lst ((rowL n B i).map V.int)) nY
      have e3Y := eZT.trans eY
      refine ⟨.ref D, rfl, Y, D, (rowL n B i).map V.int, rs, rfl, sq_of upd_same, sq_of (e3Y _ _ hD3), ?_⟩
      have hRb := rows_ex e3Y hR3
      have hY : (upd (upd (upd H3 Z (.lst [.int 0])) T (.lst ((totL n A B i 0).map V.int))) Y (.lst ((rowL n B i).map V.int))) Y = some (.lst ((rowL n B i).map V.int)) := upd_same
      have hT0 : (upd (upd (upd H3 Z (.lst [.int 0])) T (.lst ((totL n A B i 0).map V.int))) Y (.lst ((rowL n B i).map V.int))) T = some (.lst ((totL n A B i 0).map V.int)) := eY _ _ upd_same
      generalize upd (upd (upd H3 Z (.lst [.int 0])) T (.lst ((totL n A B i 0).map V.int))) Y (.lst ((rowL n B i).map V.int)) = H5 at e3Y hRb hY hT0 ⊢
      have lrow : ((rowL n B i).map V.int).length = n := by rw [List.length_map, row_len lB hi]
      refine for_it (walk_zip (n := n) (xs := (rowL n B i).map V.int) (ys := rs) (by rw [lrow, hR.1, Nat.min_self])) (fun k σ' H' => ∃ (T : Addr) (x7 x8 : Option V), σ' = [some (.int (n : Int)), some (.ref a), some (.ref b), some (.ref D), some (.ref R), some (.int (0 + (i : Nat) * (n : Int))), some (.ref T), x7, x8, none, none] ∧ T ≠ R ∧ Ex H5 H' ∧ H' T = some (.lst ((totL n A B i k).map V.int)))
        ⟨T, x7, x8, rfl, nw_ne nT (eZ _ _ hRes), Ex.refl _, hT0⟩ (fun k σ' H' _ ⟨_, _, _, _, _, e, _⟩ => ⟨sq_of (e _ _ hY), sq_of (e _ _ (e3Y _ _ hD3))⟩) (fun k v σ' H6 H7 hk hP y => ?_) (fun σ' H6 hP => ?_)
      · obtain ⟨T, x7, x8, rfl, hTR, e6, hT⟩ := hP
        obtain ⟨T2, x, z, rfl, nT2, rfl, hx, hz⟩ := y
        have hx : ((rowL n B i).map V.int)[k]? = some x := hx
        have hz : rs[k]? = some z := hz
        rw [at_row (by rw [row_len lB hi]; exact hk), row_get B hk] at hx
        have hx : V.int (B.getD (n * i + k) 0) = x := Option.some.inj hx
        subst hx
        obtain ⟨ra, h1, h2, h3⟩ := hRb.2 k hk
        rw [hz] at h1
        cases h1
        have eT2 := Ex.new (o := .tup [.int (B.getD (n * i + k) 0), .ref ra]) nT2
        have e7 := e6.trans eT2
        refine ⟨T2, _, rfl, st_of upd_same, rfl, _, _, rfl, _, _, rfl, rfl, ?_⟩
        dsimp only
        have hT7 := eT2 _ _ hT
        have hra := e7 _ _ h3
        generalize upd H6 T2 (.tup [.int (B.getD (n * i + k) 0), .ref ra]) = H8 at e7 hT7 hra ⊢
        refine s_when (et_test (ev_op (ev_var rfl) ev_c (rv_ne rfl))) (fun hb H9 e9 => ?_) (fun hb H9 e9 => ?_)
        · show tAsg _ _ _ _ _
          refine ⟨.ref T, rfl, .ref ra, rfl, T, ra, (totL n A B i k).map V.int, (rowL n A k).map V.int, rfl, sq_of (e9 _ _ hT7), sq_of (e9 _ _ hra), fun Dn nDn => ?_⟩
          refine lc_it (walk_zip (n := n) (xs := (totL n A B i k).map V.int) (ys := (rowL n A k).map V.int) (by rw [List.length_map, List.length_map, tot_len, row_len lA hk, Nat.min_self])) (fun c H' => Ex H9 H' ∧ H' Dn = some (.lst ((List.range c).map fun c => V.int ((totL n A B i k).getD c 0 + B.getD (n * i + k) 0 * (rowL n A k).getD c 0))))
            ⟨Ex.new nDn, upd_same⟩ (fun c H' _ p => ⟨sq_of (p.1 _ _ (e9 _ _ hT7)), sq_of (p.1 _ _ (e9 _ _ hra))⟩) (fun c v H10 H11 hc p y => ?_) (fun H10 p => ?_)
          · obtain ⟨p1, p2⟩ := p
            obtain ⟨T3, x, z, rfl, nT3, rfl, hx, hz⟩ := y
            have hx : ((totL n A B i k).map V.int)[c]? = some x := hx
            have hz : ((rowL n A k).map V.int)[c]? = some z := hz
            rw [at_row (by rw [tot_len]; exact hc)] at hx
            rw [at_row (by rw [row_len lA hk]; exact hc)] at hz
            cases hx
            cases hz
            refine ⟨T3, [.int ((totL n A B i k).getD c 0), .int ((rowL n A k).getD c 0)], rfl, .inl (.inl upd_same), rfl, _, _, rfl, _, _, rfl, rfl, ?_⟩
            refine ⟨rfl, _, rfl, _, rfl, _, rfl, B.getD (n * i + k) 0, (rowL n A k).getD c 0, rfl, rfl, wide_of (bB.get _) (by rw [row_get A hc]; exact bA.get _) nb0 na0 (by omega), (totL n A B i k).getD c 0, _, rfl, rfl, _, Ex.new nT3 _ _ p2, sz_lt (by rw [List.length_map, List.length_range]; omega), (p1.trans (Ex.new nT3)).mut nDn, ?_⟩
            rw [upd_same, List.range_succ, List.map_append]; rfl
          · refine ⟨Dn, _, _, rfl, nw_ne nDn (e9 _ _ (e7 _ _ (e3Y _ _ hRes))), e7.trans (e9.trans p.1), ?_⟩
            rw [p.2, tot_step, List.map_map]; rfl
        · refine ⟨T, _, _, rfl, hTR, e7.trans e9, ?_⟩
          have h0 : B.getD (n * i + k) 0 = 0 := by
            have hb : decide (V.int (B.getD (n * i + k) 0) = V.int 0) = true := by simpa using hb
            exact V.int.inj (of_decide_eq_true hb)
          rw [tot_skip h0]
          exact e9 _ _ hT7
      · obtain ⟨T, x7, x8, rfl, hTR, e6, hT⟩ := hP
        have e36 := e3Y.trans e6
        have hR6 := e36 _ _ hRes
        dsimp only
        refine ⟨.ref R, rfl, .inl ⟨rfl, _, sq_of hR6⟩, .ref T, rfl, R, T, _, _, rfl, rfl, hR6, hT, sz_of (by rw [List.length_map, List.length_map, tot_len, resL, List.length_map, List.length_range]; have : i * n ≤ 7 * 7 := Nat.mul_le_mul (by omega) h7.2; omega), ?_⟩
        have hR7 := rows_ex e36 hR3
        refine ⟨_, _, _, _, rfl, (eH.trans e36).mut nR0, by rw [upd_ne DR]; exact e36 _ _ hD3, ⟨hR7.1, fun k hk => ?_⟩, ?_⟩
        · obtain ⟨a', h1, h2, h3⟩ := hR7.2 k hk
          exact ⟨a', h1, h2, by rw [upd_ne (hRne k a' h1 hk)]; exact h3⟩
        · rw [upd_same, res_step A B i n1, List.map_append]
    · obtain ⟨x5, x6, x7, x8, rfl, eH, hD3, hR3, hRes⟩ := hP
      refine s_ret (ev_var rfl) fun H4 e4 => q R H4 nR0 (eH.trans e4) ?_
      rw [e4 _ _ hRes, res_end]
end
section
variable {P : Program} {w : World} {K : PySem.W.Frag} {mg : Str → Option Value} {base : Heap}
def spMatrix : Sp := fun vs H Q _ => ∃ (p q : Addr) (n : Nat), vs = [.ref p, .int (n : Int)] ∧ n ≤ 7 ∧ Pool H p q ∧ ∀ (A : List Int) (D : Addr) (H' : Hp), A.length = n * n → Bd 170 A → H D = none → Oth p H H' → Pool H' p q → H' D = some (.lst (A.map V.int)) → Q (.ref D) H'
theorem unit_list (n : Nat) : ((List.range (n * n)).map fun (m : Nat) => V.int (if decide (V.int ((m : Int).fmod ((n : Int) + 1)) = V.int 0) = true then 1 else 0)) = (unitI n).map V.int := by
  rw [unitI, List.map_map]
  refine List.map_congr_left fun m _ => ?_
  have e1 : (m : Int).fmod ((n : Int) + 1) = ((m % (n + 1) : Nat) : Int) := by
    rw [Int.fmod_eq_emod_of_nonneg _ (by omega)]
    exact (Int.natCast_emod m (n + 1)).symm ▸ rfl
  rw [e1]
  show V.int (if decide (V.int ((m % (n + 1) : Nat) : Int) = V.int 0) = true then 1 else 0) = V.int (if m % (n + 1) = 0 then 1 else 0)
  by_cases h : m % (n + 1) = 0
  · rw [if_pos h, h]; rfl
  · rw [if_neg h, if_neg]
    rw [decide_eq_true_eq]
    intro z
    have := V.int.inj z
    omega
theorem ev_intB {σ : L2.St} {H : Hp} {te : TE} {b : Bool} (h : Ev te σ H (.bl b)) : Ev (tCB (fun xs H Q => (∃ i, xs = [.int i] ∧ Q (.int i) H) ∨ ∃ k, xs = [.bl k] ∧ Q (.int (if k then 1 else 0)) H) (tCons te tNil)) σ H (.int (if b then 1 else 0)) :=
  ev_cb (ea_cons h ea_nil) fun H1 _ _ q => .inr ⟨b, rfl, q H1 (Ex.refl H1)⟩
theorem ok_matrix {f : Addr} {fd : FuncData} {k : Nat} (F : Fun K "_law_matrix" "_law_matrix" s_law_matrix f fd) (z_range : mg "range" = none) (z_int : mg "int" = none) (C_law_draw : Cal P w K mg base 1 "_law_draw" spDraw []) (C_law_number : Cal P w K mg base 2 "_law_number" spNumber []) (hk : 2 ≤ k) :
    FnOk P w K mg base CX0 (k + 1) f fd ["pool", "width"] spMatrix := by
  have sc := sc_law_matrix
  refine F.ok sc (fun vs H Q E h => ?_) (fun cdv A outer s H vs Q E hr h => ?_)
  · obtain ⟨p, q0, n, rfl, _⟩ := h
    rfl
  · obtain ⟨p, q0, n, rfl, h7, x, q⟩ := h
    have hnn : n * n ≤ 49 := Nat.mul_le_mul h7 h7
    refine ⟨_, (pss_cons (ps_if (pt_cmpR op_eq (pe_c C_law_draw hr (by omega) (by rfl) (pa_cons (pv 0) (pa_cons pe_int pa_nil))) pe_int (nomark _))
      (pss_one (ps_ret (pe_lc (own := [("at", 2)]) (by rfl) sc.nd (pi_range1 (by rfl) z_range (pa_cons (pe_op op_mul (pv 1) (pv 1)) pa_nil)) (blkOk_by (own := [("at", 2)]) (N := ["pool", "width", "at"]) (sc := defScope s_law_matrix) (by decide +kernel)) (fun _ _ _ _ _ => (pg_name (i := 2) sc.nd rfl (by first | exact Or.inl rfl | exact Or.inr rfl))) (fun _ _ _ _ _ => pts_nil) (fun _ _ _ _ _ => (pe_callTy call_int1 (by rfl) z_int (by decide +kernel) (pa_cons (pe_cmpR op_eq (pe_op op_modN (pv 2) (pe_op op_add (pv 1) pe_int)) pe_int (nomark _)) pa_nil))))))
      pss_nil)
      (pss_one (ps_ret (pe_lc (own := [("at", 2)]) (by rfl) sc.nd (pi_range1 (by rfl) z_range (pa_cons (pe_op op_mul (pv 1) (pv 1)) pa_nil)) (blkOk_by (own := [("at", 2)]) (N := ["pool", "width", "at"]) (sc := defScope s_law_matrix) (by decide +kernel)) (fun _ _ _ _ _ => (pg_name (i := 2) sc.nd rfl (by first | exact Or.inl rfl | exact Or.inr rfl))) (fun _ _ _ _ _ => pts_nil) (fun _ _ _ _ _ => (pe_c C_law_number hr (by omega) (by rfl) (pa_cons (pv 0) pa_nil))))))), ?_⟩
    refine ⟨.ref p, rfl, p, q0, 6, rfl, by decide, by decide, x, fun r H1 h0 h1 o1 x1 => ?_⟩
    refine ⟨rfl, _, rfl, ite2 (fun _ => ?_) (fun _ => ?_)⟩
    · refine s_retL (el_rng (n := n * n) (fun m => V.int (if decide (V.int ((m : Int).fmod ((n : Int) + 1)) = V.int 0) = true then 1 else 0)) (ea_cons (ev_is (ev_op (ev_var rfl) (ev_var rfl) (rv_I (small_mul (n := n) (by omega)))) (by rw [Int.natCast_mul])) ea_nil) (by omega) (fun _ => rfl)
        (fun m H2 e2 hm => ev_intB (ev_op (ev_op (ev_var rfl) (ev_op (ev_var rfl) ev_c rv_I0) (rv_I (show (n : Int) + 1 ≠ 0 by omega))) ev_c (rv_eq rfl)))) fun D H2 hD e2 h2 => ?_
      exact q (unitI n) D H2 (unit_len n) (fun z hz => Nat.lt_of_lt_of_le (unit_bd n z hz) (by decide)) (by
        cases e : H D with
        | none => rfl
        | some o =>
          have hDp : D ≠ p := fun z => by
            obtain ⟨o, ho⟩ := x1.isP
            rw [z, ho] at hD; cases hD
          rw [o1 _ _ hDp e] at hD; cases hD) (o1.trans (.of e2)) (x1.ex e2) (by rw [h2, unit_list])
    · refine dw_rng (n := n * n) (good := fun z => z.natAbs < 2 ^ 170) (fun H2 => ea_cons (ev_is (ev_op (ev_var rfl) (ev_var rfl) (rv_I (small_mul (n := n) (by omega)))) (by rw [Int.natCast_mul])) ea_nil) (by omega) (fun _ => rfl) (fun i hi H2 x2 Q2 q2 => ?_) x1 fun ns D H2 hl hg hD o2 x2 h2 => ?_
      · exact ⟨.ref p, rfl, p, q0, rfl, x2, fun r H3 hr o3 x3 => q2 r H3 hr o3 x3⟩
      · exact q ns D H2 hl hg (by
          cases e : H D with
          | none => rfl
          | some o =>
            have hDp : D ≠ p := fun z => by
              obtain ⟨o, ho⟩ := x1.isP
              rw [z, ho] at hD; cases hD
            rw [o1 _ _ hDp e] at hD; cases hD) (o1.trans o2) x2 h2
end
section
variable {P : Program} {w : World} {K : PySem.W.Frag} {mg : Str → Option Value} {base : Heap}
theorem il_eq {σ : L2.St} {H : Hp} {te : TE} {l l' : List Int} (h : EvP te σ H (IL K l)) (e : l = l') : EvP te σ H (IL K l') := e ▸ h
theorem el_two {σ : L2.St} {H : Hp} {tw tx ty : TE} {E : XK} {la lb : Nat → Nat} {g : Nat → List Int → List Int → List Int} {n na nb : Nat} {A B : List Int} (hw : Ev tw σ H (.int (n : Int))) (hx : EvP tx σ H (IL K A)) (hy : EvP ty σ H (IL K B)) (h7 : 1 ≤ n ∧ n ≤ 7) (lA : A.length = la n) (lB : B.length = lb n)
    (bA : Bd na A) (bB : Bd nb B) (h1 : 0 < na) (h2 : 0 < nb) (h3 : na + nb ≤ 1000000) : EvL (tCall (spTwo K la lb g) [] E (tCons tw (tCons tx (tCons ty tNil)))) σ H ((g n A B).map V.int) := fun H1 a Q q =>
  hw H1 a _ fun H2 e2 => hx H2 (a.trans e2) _ fun x H3 e3 hx => hy H3 ((a.trans e2).trans e3) _ fun y H4 e4 hy => by
    obtain ⟨a1, rfl, s1⟩ := hx
    obtain ⟨b1, rfl, s2⟩ := hy
    exact ⟨n, a1, b1, A, B, na, nb, rfl, h7, ex_l e4 s1, s2, lA, lB, bA, bB, h1, h2, h3, fun p H5 np e5 hp => q p H5 (fresh_back ((e2.trans e3).trans e4) np) (((e2.trans e3).trans e4).trans e5) hp⟩
/-- [f(..), g(..)], two new lists in a new list -/
theorem el_pair {σ : L2.St} {H : Hp} {ta tb : TE} {xs ys : List V} (ha : EvL ta σ H xs) (hb : EvL tb σ H ys) : ∀ H1, Ex H H1 → ∀ Q : VK, (∀ p c1 c2 H2, H1 c1 = none → H1 c2 = none → c1 ≠ c2 → c1 ≠ p → c2 ≠ p → Ex H1 H2 → H2 c1 = some (.lst xs) → H2 c2 = some (.lst ys) → H2 p = some (.lst [.ref c1, .ref c2]) → Q (.ref p) H2) →
    tLst (tCons ta (tCons tb tNil)) σ H1 Q := fun H1 e Q q =>
  ha H1 e _ fun c1 H2 n1 e2 h1 => hb H2 (e.trans e2) _ fun c2 H3 n2 e3 h2 => ⟨by show 2 ≤ sizeLine; decide, fun p hp => q p c1 c2 _ n1 (fresh_back e2 n2) (ne_of_none h1 n2) (ne_of_none (e3 _ _ h1) hp) (ne_of_none h2 hp) ((e2.trans e3).trans (Ex.new hp)) (Ex.new hp _ _ (e3 _ _ h1)) (Ex.new hp _ _ h2) upd_same⟩
theorem q_for2 {σ : L2.St} {H : Hp} {ta tb : TE} {xs ys : List V} {D : Ends} {tu tz : TS} {j : Nat} (ha : EvL ta σ H xs) (hb : EvL tb σ H ys)
    (k : ∀ p c1 c2 H2, H c1 = none → H c2 = none → c1 ≠ c2 → c1 ≠ p → c2 ≠ p → Ex H H2 → H2 c1 = some (.lst xs) → H2 c2 = some (.lst ys) → H2 p = some (.lst [.ref c1, .ref c2]) →
      ∃ Pv : Nat → L2.St → Hp → Prop, Pv 0 σ H2 ∧ (∀ i σ' H', Pv i σ' H' → SqL K H' p [.ref c1, .ref c2]) ∧ (∀ i x σ' H', [V.ref c1, V.ref c2][i]? = some x → Pv i σ' H' → tu { D with nx := Pv (i + 1), ct := Pv (i + 1), bk := tz D } (σ'.set j (some x)) H') ∧ ∀ σ' H', Pv 2 σ' H' → tz D σ' H') :
    tSeq (tFor (iList K (tLst (tCons ta (tCons tb tNil)))) (gName j) tu) tz D σ H :=
  by
    unfold tSeq tFor iList
    refine el_pair ha hb H (Ex.refl H) _ fun p c1 c2 H2 a1 a2 a3 a4 a5 a6 a7 a8 a9 => ?_
    obtain ⟨Pv, h0, hl, hs, hd⟩ := k p c1 c2 H2 a1 a2 a3 a4 a5 a6 a7 a8 a9
    exact ⟨p, rfl, ⟨_, sq_of a9⟩, for_list (D := { D with nx := tz D }) (xs := [.ref c1, .ref c2]) Pv h0 (fun i σ' H' _ => hl i σ' H') hs hd⟩
/-- what stands behind the draws -/
structure Wd (K : PySem.W.Frag) (H : Hp) (a1 a2 a3 a4 l1 l2 l3 l4 pp : Addr) (A B C v : List Int) : Prop where
  o1 : SqL K H a1 (A.map V.int)
  o2 : SqL K H a2 (B.map V.int)
  o3 : SqL K H a3 (C.map V.int)
  o4 : SqL K H a4 (v.map V.int)
  p1 : SqL K H l1 (A.map V.int)
  p2 : SqL K H l2 (B.map V.int)
  p3 : SqL K H l3 (C.map V.int)
  p4 : SqL K H l4 (v.map V.int)
  pp : SqL K H pp [.ref l1, .ref l2, .ref l3, .ref l4]
theorem Wd.ex {H H' : Hp} {a1 a2 a3 a4 l1 l2 l3 l4 pp : Addr} {A B C v : List Int} (x : Wd K H a1 a2 a3 a4 l1 l2 l3 l4 pp A B C v) (e : Ex H H') : Wd K H' a1 a2 a3 a4 l1 l2 l3 l4 pp A B C v :=
  ⟨ex_l e x.o1, ex_l e x.o2, ex_l e x.o3, ex_l e x.o4, ex_l e x.p1, ex_l e x.p2, ex_l e x.p3, ex_l e x.p4, ex_l e x.pp⟩
/-- passed[j] -/
theorem ep_pi {σ : L2.St} {H : Hp} {tl : TE} {pp l : Addr} {ls : List V} {j : Nat} {L : List Int} (hl : Ev tl σ H (.ref pp)) (hp : SqL K H pp ls) (hj : ls[j]? = some (.ref l)) (hL : SqL K H l (L.map V.int)) : EvP (tOp (rIxL K) tl (tC (.int (j : Int)))) σ H (IL K L) :=
  ep_il (ev_op hl ev_c (rv_ixL hp (atI_nat hj))) hL
def spLaw (K : PySem.W.Frag) : Sp := fun vs H Q _ => ∃ (a : Addr) (ns : List Int), vs = [.ref a] ∧ SqL K H a (ns.map V.int) ∧ ∀ H', Q (.bl true) H'
theorem ok_law {f : Addr} {fd : FuncData} (F : Fun K "law" "law" slaw f fd) (z_range : mg "range" = none) (z_int : mg "int" = none) (z_list : mg "list" = none) (z_len : mg "len" = none)
    (C_law_pool : Cal P w K mg base 1 "_law_pool" (spPool K) []) (C_law_draw : Cal P w K mg base 1 "_law_draw" spDraw []) (C_law_number : Cal P w K mg base 2 "_law_number" spNumber []) (C_law_matrix : Cal P w K mg base 3 "_law_matrix" spMatrix [])
    (C_law_same : Cal P w K mg base 3 "_law_same" (spSame K 3) []) (C_law_times : Cal P w K mg base 1 "_law_times" (spComp K) []) (C_law_image : Cal P w K mg base 1 "_law_image" (spApp K) []) (Ccomposed : Cal P w K mg base 1 "composed" (spComp K) []) (Capplied : Cal P w K mg base 1 "applied" (spApp K) []) :
    FnOk P w K mg base CX0 4 f fd ["script"] (spLaw K) := by
  have sc := sclaw
  refine F.ok sc (fun vs H Q E h => ?_) (fun cdv A outer s H vs Q E hr h => ?_)
  · obtain ⟨a, ns, rfl, _⟩ := h
    rfl
  · obtain ⟨a, ns, rfl, hS, q⟩ := h
    refine ⟨_, (pss_cons (ps_set (i := 1) sc.nd rfl (by first | exact Or.inl rfl | exact Or.inr rfl) (pe_c C_law_pool hr (by omega) (by rfl) (pa_cons (pv 0) pa_nil)))
      (pss_cons (ps_set (i := 2) sc.nd rfl (by first | exact Or.inl rfl | exact Or.inr rfl) (pe_op op_add pe_int (pe_c C_law_draw hr (by omega) (by rfl) (pa_cons (pv 1) (pa_cons pe_int pa_nil)))))
      (pss_cons (ps_set (i := 3) sc.nd rfl (by first | exact Or.inl rfl | exact Or.inr rfl) (pe_c C_law_matrix hr (by omega) (by rfl) (pa_cons (pv 1) (pa_cons (pv 2) pa_nil))))
      (pss_cons (ps_set (i := 4) sc.nd rfl (by first | exact Or.inl rfl | exact Or.inr rfl) (pe_c C_law_matrix hr (by omega) (by rfl) (pa_cons (pv 1) (pa_cons (pv 2) pa_nil))))
      (pss_cons (ps_set (i := 5) sc.nd rfl (by first | exact Or.inl rfl | exact Or.inr rfl) (pe_c C_law_matrix hr (by omega) (by rfl) (pa_cons (pv 1) (pa_cons (pv 2) pa_nil))))
      (pss_cons (ps_setLc (i := 6) (own := [("k", 13)]) (by rfl) sc.nd rfl rfl (sw_true rfl rfl rfl (by decide +kernel)) (pi_range1 (by rfl) z_range (pa_cons (pv 2) pa_nil)) (blkOk_by (own := [("k", 13)]) (N := ["script", "pool", "width", "one", "two", "three", "vector", "passed", "both", "behind", "left", "unit", "told", "k", "at"]) (sc := defScope slaw) (by decide +kernel)) (fun _ _ _ _ _ => (pg_name (i := 13) sc.nd rfl (by first | exact Or.inl rfl | exact Or.inr rfl))) (fun _ _ _ _ _ => pts_nil) (fun _ _ _ _ _ => (pe_c C_law_number hr (by omega) (by rfl) (pa_cons (pv 1) pa_nil))))
      (pss_cons (ps_set (i := 7) sc.nd rfl (by first | exact Or.inl rfl | exact Or.inr rfl) (pe_lst (pa_cons (pe_callTy call_list_of (by rfl) z_list (by decide +kernel) (pa_cons (pv 3) pa_nil)) (pa_cons (pe_callTy call_list_of (by rfl) z_list (by decide +kernel) (pa_cons (pv 4) pa_nil)) (pa_cons (pe_callTy call_list_of (by rfl) z_list (by decide +kernel) (pa_cons (pv 5) pa_nil)) (pa_cons (pe_callTy call_list_of (by rfl) z_list (by decide +kernel) (pa_cons (pv 6) pa_nil)) pa_nil))))))
      (pss_cons (ps_set (i := 8) sc.nd rfl (by first | exact Or.inl rfl | exact Or.inr rfl) (pe_c Ccomposed hr (by omega) (by rfl) (pa_cons (pv 2) (pa_cons (pe_ix ix_list (pv 7) pe_int (fun _ _ => rfl)) (pa_cons (pe_ix ix_list (pv 7) pe_int (fun _ _ => rfl)) pa_nil)))))
      (pss_cons (ps_if (pt_not (pt_val (pe_c C_law_same hr (by omega) (by rfl) (pa_cons (pv 8) (pa_cons (pe_c C_law_times hr (by omega) (by rfl) (pa_cons (pv 2) (pa_cons (pv 3) (pa_cons (pv 4) pa_nil)))) pa_nil)))))
      (pss_one (ps_ret pe_bl))
      pss_nil)
      (pss_cons (ps_if (pt_not (pt_val (pe_c C_law_same hr (by omega) (by rfl) (pa_cons (pe_c Capplied hr (by omega) (by rfl) (pa_cons (pv 2) (pa_cons (pe_ix ix_list (pv 7) pe_int (fun _ _ => rfl)) (pa_cons (pe_ix ix_list (pv 7) pe_int (fun _ _ => rfl)) pa_nil)))) (pa_cons (pe_c C_law_image hr (by omega) (by rfl) (pa_cons (pv 2) (pa_cons (pv 3) (pa_cons (pv 6) pa_nil)))) pa_nil)))))
      (pss_one (ps_ret pe_bl))
      pss_nil)
      (pss_cons (ps_set (i := 9) sc.nd rfl (by first | exact Or.inl rfl | exact Or.inr rfl) (pe_c Capplied hr (by omega) (by rfl) (pa_cons (pv 2) (pa_cons (pe_ix ix_list (pv 7) pe_int (fun _ _ => rfl)) (pa_cons (pe_c Capplied hr (by omega) (by rfl) (pa_cons (pv 2) (pa_cons (pe_ix ix_list (pv 7) pe_int (fun _ _ => rfl)) (pa_cons (pe_ix ix_list (pv 7) pe_int (fun _ _ => rfl)) pa_nil)))) pa_nil)))))
      (pss_cons (ps_if (PW.pt (pw_or (pt_not (pt_val (pe_c C_law_same hr (by omega) (by rfl) (pa_cons (pv 9) (pa_cons (pe_c Capplied hr (by omega) (by rfl) (pa_cons (pv 2) (pa_cons (pv 8) (pa_cons (pe_ix ix_list (pv 7) pe_int (fun _ _ => rfl)) pa_nil)))) pa_nil))))) (pw_or1 (pt_not (pt_val (pe_c C_law_same hr (by omega) (by rfl) (pa_cons (pv 7) (pa_cons (pe_lst (pa_cons (pv 3) (pa_cons (pv 4) (pa_cons (pv 5) (pa_cons (pv 6) pa_nil))))) pa_nil))))))))
      (pss_one (ps_ret pe_bl))
      pss_nil)
      (pss_cons (ps_set (i := 10) sc.nd rfl (by first | exact Or.inl rfl | exact Or.inr rfl) (pe_c Ccomposed hr (by omega) (by rfl) (pa_cons (pv 2) (pa_cons (pe_c Ccomposed hr (by omega) (by rfl) (pa_cons (pv 2) (pa_cons (pe_ix ix_list (pv 7) pe_int (fun _ _ => rfl)) (pa_cons (pe_ix ix_list (pv 7) pe_int (fun _ _ => rfl)) pa_nil)))) (pa_cons (pe_ix ix_list (pv 7) pe_int (fun _ _ => rfl)) pa_nil)))))
      (pss_cons (ps_if (pt_not (pt_val (pe_c C_law_same hr (by omega) (by rfl) (pa_cons (pv 10) (pa_cons (pe_c Ccomposed hr (by omega) (by rfl) (pa_cons (pv 2) (pa_cons (pe_ix ix_list (pv 7) pe_int (fun _ _ => rfl)) (pa_cons (pe_c Ccomposed hr (by omega) (by rfl) (pa_cons (pv 2) (pa_cons (pe_ix ix_list (pv 7) pe_int (fun _ _ => rfl)) (pa_cons (pe_ix ix_list (pv 7) pe_int (fun _ _ => rfl)) pa_nil)))) pa_nil)))) pa_nil)))))
      (pss_one (ps_ret pe_bl))
      pss_nil)
      (pss_cons (ps_setLc (i := 11) (own := [("at", 14)]) (by rfl) sc.nd rfl rfl (sw_true rfl rfl rfl (by decide +kernel)) (pi_range1 (by rfl) z_range (pa_cons (pe_op op_mul (pv 2) (pv 2)) pa_nil)) (blkOk_by (own := [("at", 14)]) (N := ["script", "pool", "width", "one", "two", "three", "vector", "passed", "both", "behind", "left", "unit", "told", "k", "at"]) (sc := defScope slaw) (by decide +kernel)) (fun _ _ _ _ _ => (pg_name (i := 14) sc.nd rfl (by first | exact Or.inl rfl | exact Or.inr rfl))) (fun _ _ _ _ _ => pts_nil) (fun _ _ _ _ _ => (pe_callTy call_int1 (by rfl) z_int (by decide +kernel) (pa_cons (pe_cmpR op_eq (pe_op op_modN (pv 14) (pe_op op_add (pv 2) pe_int)) pe_int (nomark _)) pa_nil))))
      (pss_cons (ps_for PassesOwn.never rfl (pi_list (pe_lst (pa_cons (pe_c Ccomposed hr (by omega) (by rfl) (pa_cons (pv 2) (pa_cons (pv 11) (pa_cons (pe_ix ix_list (pv 7) pe_int (fun _ _ => rfl)) pa_nil)))) (pa_cons (pe_c Ccomposed hr (by omega) (by rfl) (pa_cons (pv 2) (pa_cons (pe_ix ix_list (pv 7) pe_int (fun _ _ => rfl)) (pa_cons (pv 11) pa_nil)))) pa_nil)))) (pg_name (i := 12) sc.nd rfl (by first | exact Or.inl rfl | exact Or.inr rfl))
      (pss_cons (ps_if (pt_not (pt_val (pe_c C_law_same hr (by omega) (by rfl) (pa_cons (pv 12) (pa_cons (pv 3) pa_nil)))))
      (pss_one (ps_ret pe_bl))
      pss_nil)
      (pss_one (ps_expr (pe_bm PySem.F.plainAttrs_list PySem.F.slot_list_append PySem.F.type_list_append mt_append (pv 12) (pa_cons pe_int pa_nil))))))
      (pss_cons (ps_if (PW.pt (pw_or (pt_not (pt_val (pe_c C_law_same hr (by omega) (by rfl) (pa_cons (pe_ix ix_list (pv 7) pe_int (fun _ _ => rfl)) (pa_cons (pv 3) pa_nil))))) (pw_or1 (pt_cmpR op_ne (pe_callB call_len_seq (by rfl) z_len (by decide +kernel) (pa_cons (pv 11) pa_nil)) (pe_op op_mul (pv 2) (pv 2)) (nomark _)))))
      (pss_one (ps_ret pe_bl))
      pss_nil)
      (pss_cons (ps_expr (pe_bm PySem.F.plainAttrs_list PySem.F.slot_list_append PySem.F.type_list_append mt_append (pv 8) (pa_cons pe_int pa_nil)))
      (pss_one (ps_ret (pe_c C_law_same hr (by omega) (by rfl) (pa_cons (pe_c Ccomposed hr (by omega) (by rfl) (pa_cons (pv 2) (pa_cons (pe_ix ix_list (pv 7) pe_int (fun _ _ => rfl)) (pa_cons (pe_ix ix_list (pv 7) pe_int (fun _ _ => rfl)) pa_nil)))) (pa_cons (pe_c C_law_times hr (by omega) (by rfl) (pa_cons (pv 2) (pa_cons (pv 3) (pa_cons (pv 4) pa_nil)))) pa_nil))))))))))))))))))))))), ?_⟩
    -- the draws
    refine q_run ?_
    refine ⟨.ref a, rfl, a, ns, rfl, hS, fun p q0 H1 np nq e1 x1 => ?_⟩
    refine q_run ?_
    refine ⟨.ref p, rfl, p, q0, 6, rfl, by decide, by decide, x1, fun r H2 r0 r6 o2 x2 => ?_⟩
    obtain ⟨n, hn⟩ : ∃ n : Nat, 2 + r = (n : Int) := ⟨(2 + r).toNat, by omega⟩
    have h7 : n ≤ 7 := by omega
    have h17 : 1 ≤ n ∧ n ≤ 7 := ⟨by omega, h7⟩
    refine ⟨2, r, rfl, rfl, ?_⟩
    show tSeq _ _ _ (List.set _ 2 (some (V.int (2 + r)))) _
    rw [hn]
    refine q_run ?_
    refine ⟨.ref p, rfl, .int (n : Int), rfl, p, q0, n, rfl, h7, x2, fun A a1 H3 lA bA na1 o3 x3 ha1 => ?_⟩
    have a1p := x3.neI ha1
    refine q_run ?_
    refine ⟨.ref p, rfl, .int (n : Int), rfl, p, q0, n, rfl, h7, x3, fun B a2 H4 lB bB na2 o4 x4 ha2 => ?_⟩
    have a2p := x4.neI ha2
    have ha1 := o4 _ _ a1p ha1
    refine q_run ?_
    refine ⟨.ref p, rfl, .int (n : Int), rfl, p, q0, n, rfl, h7, x4, fun C a3 H5 lC bC na3 o5 x5 ha3 => ?_⟩
    have a3p := x5.neI ha3
    have ha1 := o5 _ _ a1p ha1
    have ha2 := o5 _ _ a2p ha2
    refine q_run ?_
    refine dw_rng (n := n) (good := fun z => z.natAbs < 2 ^ 170) (fun H2 => ea_cons (ev_var rfl) ea_nil) (by omega) (fun _ => rfl) (fun i hi H2 x2 Q2 q2 => ⟨.ref p, rfl, p, q0, rfl, x2, fun r H3 hr o3 x3 => q2 r H3 hr o3 x3⟩) x5 fun v a4 H6 lv bv na4 o6 x6 ha4 => ?_
    have ha1 := o6 _ _ a1p ha1
    have ha2 := o6 _ _ a2p ha2
    have ha3 := o6 _ _ a3p ha3
    -- passed
    refine q_run ?_
    refine ⟨.ref a1, rfl, a1, _, rfl, .inl (sq_of ha1), fun l1 nl1 => ?_⟩
    have e1 := Ex.new (o := .lst (A.map V.int)) nl1
    refine ⟨.ref a2, rfl, a2, _, rfl, .inl (sq_of (e1 _ _ ha2)), fun l2 nl2 => ?_⟩
    have e2 := Ex.new (o := .lst (B.map V.int)) nl2
    refine ⟨.ref a3, rfl, a3, _, rfl, .inl (sq_of (e2 _ _ (e1 _ _ ha3))), fun l3 nl3 => ?_⟩
    have e3 := Ex.new (o := .lst (C.map V.int)) nl3
    refine ⟨.ref a4, rfl, a4, _, rfl, .inl (sq_of (e3 _ _ (e2 _ _ (e1 _ _ ha4)))), fun l4 nl4 => ?_⟩
    have e4 := Ex.new (o := .lst (v.map V.int)) nl4
    refine ⟨by show 4 ≤ sizeLine; decide, fun pp npp => ?_⟩
    have e5 := Ex.new (o := .lst [.ref l1, .ref l2, .ref l3, .ref l4]) npp
    have e45 := e4.trans e5
    have e35 := e3.trans e45
    have e25 := e2.trans e35
    have W : Wd K (upd (upd (upd (upd (upd H6 l1 (.lst (A.map V.int))) l2 (.lst (B.map V.int))) l3 (.lst (C.map V.int))) l4 (.lst (v.map V.int))) pp (.lst [.ref l1, .ref l2, .ref l3, .ref l4])) a1 a2 a3 a4 l1 l2 l3 l4 pp A B C v :=
      ⟨sq_of (e25 _ _ (e1 _ _ ha1)), sq_of (e25 _ _ (e1 _ _ ha2)), sq_of (e25 _ _ (e1 _ _ ha3)), sq_of (e25 _ _ (e1 _ _ ha4)), sq_of (e25 _ _ upd_same), sq_of (e35 _ _ upd_same), sq_of (e45 _ _ upd_same), sq_of (e5 _ _ upd_same), sq_of upd_same⟩
    generalize upd (upd (upd (upd (upd H6 l1 (.lst (A.map V.int))) l2 (.lst (B.map V.int))) l3 (.lst (C.map V.int))) l4 (.lst (v.map V.int))) pp (.lst [.ref l1, .ref l2, .ref l3, .ref l4]) = H0 at W ⊢
    have hnn : n * n ≤ 49 := Nat.mul_le_mul h7 h7
    have bAB := comp_bd h7 bA bB
    have bBC := comp_bd h7 bB bC
    have bAv := app_bd h7 bA bv
    -- both
    refine q_asgL (el_two (n := n) (A := A) (B := B) (ev_var rfl) (ep_pi (j := 0) (ev_var rfl) W.pp rfl W.p1) (ep_pi (j := 1) (ev_var rfl) W.pp rfl W.p2) h17 lA lB bA bB (by decide) (by decide) (by decide)) fun b Hb nb eb hb => ?_
    have W1 := W.ex eb
    refine q_same (d := LI (comp n A B)) (n := 2) (il_dp (ep_il (ev_var rfl) (sq_of hb))) (il_dp (il_el (el_two (n := n) (A := A) (B := B) (ev_var rfl) (ep_il (ev_var rfl) W1.o1) (ep_il (ev_var rfl) W1.o2) h17 lA lB bA bB (by decide) (by decide) (by decide)))) (fit_LI (by rw [comp_len]; omega)) fun H7 e7 => ?_
    have W2 := W1.ex e7
    refine q_same (d := LI (app n A v)) (n := 2) (il_dp (il_el (el_two (n := n) (A := A) (B := v) (ev_var rfl) (ep_pi (j := 0) (ev_var rfl) W2.pp rfl W2.p1) (ep_pi (j := 3) (ev_var rfl) W2.pp rfl W2.p4) h17 lA lv bA bv (by decide) (by decide) (by decide))))
      (il_dp (il_el (el_two (n := n) (A := A) (B := v) (ev_var rfl) (ep_il (ev_var rfl) W2.o1) (ep_il (ev_var rfl) W2.o4) h17 lA lv bA bv (by decide) (by decide) (by decide)))) (fit_LI (by rw [app_len]; omega)) fun H8 e8 => ?_
    have W3 := W2.ex e8
    have hb3 := e8 _ _ (e7 _ _ hb)
    -- behind
    refine q_asgL (el_two (n := n) (A := B) (B := app n A v) (ev_var rfl) (ep_pi (j := 1) (ev_var rfl) W3.pp rfl W3.p2) (il_el (el_two (n := n) (A := A) (B := v) (ev_var rfl) (ep_pi (j := 0) (ev_var rfl) W3.pp rfl W3.p1) (ep_pi (j := 3) (ev_var rfl) W3.pp rfl W3.p4) h17 lA lv bA bv (by decide) (by decide) (by decide))) h17 lB (app_len n A v) bB bAv (by decide) (by decide) (by decide)) fun bh H9 _ e9 hbh => ?_
    have W4 := W3.ex e9
    have hb4 := e9 _ _ hb3
    refine q_when (et_or (et_not (et_B (ev_same (d := LI (app n B (app n A v))) (n := 2) (il_dp (ep_il (ev_var rfl) (sq_of hbh))) (il_dp (il_eq (il_el (el_two (n := n) (A := comp n A B) (B := v) (ev_var rfl) (ep_il (ev_var rfl) (sq_of hb4)) (ep_pi (j := 3) (ev_var rfl) W4.pp rfl W4.p4) h17 (comp_len n A B) lv bAB bv (by decide) (by decide) (by decide))) (app_comp n A B v).symm)) (fit_LI (by rw [app_len]; omega)))))
      fun _ => et_not (et_B (ev_same (d := .list [LI A, LI B, LI C, LI v]) (n := 2) (ep_dp (ev_var rfl) (.lst W4.pp (.cons (.lst W4.p1 (dpa_ints A)) (.cons (.lst W4.p2 (dpa_ints B)) (.cons (.lst W4.p3 (dpa_ints C)) (.cons (.lst W4.p4 (dpa_ints v)) .nil))))))
        (ep_el (el_lst (ea_cons (ev_var rfl) (ea_cons (ev_var rfl) (ea_cons (ev_var rfl) (ea_cons (ev_var rfl) ea_nil)))) (by show 4 ≤ 100000; decide)) fun p H e hp => .lst (sq_of hp) (.cons (.lst (ex_l e W4.o1) (dpa_ints A)) (.cons (.lst (ex_l e W4.o2) (dpa_ints B)) (.cons (.lst (ex_l e W4.o3) (dpa_ints C)) (.cons (.lst (ex_l e W4.o4) (dpa_ints v)) .nil)))))
        (by rw [fit, fitAll, fitAll, fitAll, fitAll, fitAll, fit_LI (by have : sq n ≤ 49 := hnn; omega), fit_LI (by have : sq n ≤ 49 := hnn; omega), fit_LI (by have : sq n ≤ 49 := hnn; omega), fit_LI (by omega)]; rfl)))) (fun h => (nomatch h)) fun _ H10 e10 => ?_
    have W5 := W4.ex e10
    have hb5 := e10 _ _ hb4
    -- left
    refine q_asgL (el_two (n := n) (A := comp n A B) (B := C) (ev_var rfl) (il_el (el_two (n := n) (A := A) (B := B) (ev_var rfl) (ep_pi (j := 0) (ev_var rfl) W5.pp rfl W5.p1) (ep_pi (j := 1) (ev_var rfl) W5.pp rfl W5.p2) h17 lA lB bA bB (by decide) (by decide) (by decide))) (ep_pi (j := 2) (ev_var rfl) W5.pp rfl W5.p3) h17 (comp_len n A B) lC bAB bC (by decide) (by decide) (by decide)) fun lf H11 _ e11 hlf => ?_
    have W6 := W5.ex e11
    have hb6 := e11 _ _ hb5
    refine q_same (d := LI (comp n (comp n A B) C)) (n := 2) (il_dp (ep_il (ev_var rfl) (sq_of hlf))) (il_dp (il_eq (il_el (el_two (n := n) (A := A) (B := comp n B C) (ev_var rfl) (ep_pi (j := 0) (ev_var rfl) W6.pp rfl W6.p1) (il_el (el_two (n := n) (A := B) (B := C) (ev_var rfl) (ep_pi (j := 1) (ev_var rfl) W6.pp rfl W6.p2) (ep_pi (j := 2) (ev_var rfl) W6.pp rfl W6.p3) h17 lB lC bB bC (by decide) (by decide) (by decide))) h17 lA (comp_len n B C) bA bBC (by decide) (by decide) (by decide))) (comp_assoc n A B C).symm))
      (fit_LI (by rw [comp_len]; omega)) fun H12 e12 => ?_
    have W7 := W6.ex e12
    have hb7 := e12 _ _ hb6
    -- unit
    refine q_asgL (el_is (el_rng (n := n * n) (fun m => V.int (if decide (V.int ((m : Int).fmod ((n : Int) + 1)) = V.int 0) = true then 1 else 0)) (ea_cons (ev_is (ev_op (ev_var rfl) (ev_var rfl) (rv_I (small_mul (n := n) (by omega)))) (by rw [Int.natCast_mul])) ea_nil) (by omega) (fun _ => rfl)
        (fun m H2 e2 hm => ev_intB (ev_op (ev_op (ev_var rfl) (ev_op (ev_var rfl) ev_c rv_I0) (rv_I (show (n : Int) + 1 ≠ 0 by omega))) ev_c (rv_eq rfl)))) (unit_list n)) fun u H13 _ e13 hu => ?_
    have W8 := W7.ex e13
    have hb8 := e13 _ _ hb7
    -- for told in ..
    refine q_for2 (el_two (n := n) (A := unitI n) (B := A) (ev_var rfl) (ep_il (ev_var rfl) (sq_of hu)) (ep_pi (j := 0) (ev_var rfl) W8.pp rfl W8.p1) h17 (unit_len n) lA (unit_bd n) bA (by decide) (by decide) (by decide))
      (el_two (n := n) (A := A) (B := unitI n) (ev_var rfl) (ep_pi (j := 0) (ev_var rfl) W8.pp rfl W8.p1) (ep_il (ev_var rfl) (sq_of hu)) h17 lA (unit_len n) bA (unit_bd n) (by decide) (by decide) (by decide)) fun pl c1 c2 H14 n1 n2 n12 np1 np2 e14 hc1 hc2 hpl => ?_
    rw [comp_unitL lA] at hc1
    rw [comp_unitR lA] at hc2
    have lA2 : A.length = n * n := lA
    refine ⟨fun i σ' H' => ∃ y, σ' = [some (.ref a), some (.ref p), some (.int (n : Int)), some (.ref a1), some (.ref a2), some (.ref a3), some (.ref a4), some (.ref pp), some (.ref b), some (.ref bh), some (.ref lf), some (.ref u), y, none, none] ∧
      Ex H13 H' ∧ H' pl = some (.lst [.ref c1, .ref c2]) ∧ (i = 0 → H' c1 = some (.lst (A.map V.int))) ∧ (i ≤ 1 → H' c2 = some (.lst (A.map V.int))), ⟨none, rfl, e14, hpl, fun _ => hc1, fun _ => hc2⟩, fun i σ' H' hP => ?_, fun i x σ' H' hi hP => ?_, fun σ' H' hP => ?_⟩
    · obtain ⟨y, rfl, _, h, _⟩ := hP
      exact sq_of h
    · obtain ⟨y, rfl, e', hp', g1, g2⟩ := hP
      obtain ⟨c, rfl, hc0, hcp, hc, hi1, hne⟩ : ∃ c : Addr, x = .ref c ∧ H13 c = none ∧ c ≠ pl ∧ H' c = some (.lst (A.map V.int)) ∧ i ≤ 1 ∧ (i = 0 → c ≠ c2) := by
        match i, hi with
        | 0, hi =>
          have : V.ref c1 = x := Option.some.inj hi
          subst this
          exact ⟨c1, rfl, n1, np1, g1 rfl, by omega, fun _ => n12⟩
        | 1, hi =>
          have : V.ref c2 = x := Option.some.inj hi
          subst this
          exact ⟨c2, rfl, n2, np2, g2 (by omega), by omega, fun h => (nomatch h)⟩
      refine q_same (d := LI A) (n := 2) (il_dp (ep_il (ev_var rfl) (sq_of hc))) (il_dp (ep_il (ev_var rfl) (ex_l e' W8.o1))) (fit_LI (by omega)) fun H15 e15 => ?_
      refine s_app (e15 _ _ hc) (ev_var rfl) ev_c (by rw [List.length_map]; omega) fun H16 e16 => ⟨_, rfl, ((e'.trans e15).trans e16).mut hc0, ?_, fun h => (nomatch h), fun h => ?_⟩
      · rw [upd_ne hcp.symm]
        exact e16 _ _ (e15 _ _ hp')
      · have : i = 0 := by omega
        rw [upd_ne (hne this).symm]
        exact e16 _ _ (e15 _ _ (g2 hi1))
    · obtain ⟨y, rfl, e', _⟩ := hP
      have W9 := W8.ex e'
      have hb9 := e' _ _ hb8
      have hu9 := e' _ _ hu
      refine q_when (et_or (et_not (et_B (ev_same (d := LI A) (n := 2) (il_dp (ep_pi (j := 0) (ev_var rfl) W9.pp rfl W9.p1)) (il_dp (ep_il (ev_var rfl) W9.o1)) (fit_LI (by omega)))))
        fun _ => et_test (ev_op (ev_len (ev_var rfl) (sq_of hu9)) (ev_op (ev_var rfl) (ev_var rfl) (rv_I (small_mul (n := n) (by omega)))) (rv_ne rfl))) (fun h => ?_) fun _ H15 e15 => ?_
      · exfalso
        rw [List.length_map, unit_len, Int.natCast_mul, decide_eq_true rfl] at h
        cases h
      · have eb9 : Ex H0 H15 := (((((((((eb.trans e7).trans e8).trans e9).trans e10).trans e11).trans e12).trans e13).trans e')).trans e15
        refine q_app (e15 _ _ hb9) (ev_var rfl) ev_c (by rw [List.length_map, comp_len]; omega) fun H16 e16 => ?_
        have W10 := W.ex ((eb9.trans e16).mut (o := .lst ((comp n A B).map V.int ++ [.int 0])) nb)
        refine s_ret (ev_same (d := LI (comp n A B)) (n := 2) (il_dp (il_el (el_two (n := n) (A := A) (B := B) (ev_var rfl) (ep_pi (j := 0) (ev_var rfl) W10.pp rfl W10.p1) (ep_pi (j := 1) (ev_var rfl) W10.pp rfl W10.p2) h17 lA lB bA bB (by decide) (by decide) (by decide))))
          (il_dp (il_el (el_two (n := n) (A := A) (B := B) (ev_var rfl) (ep_il (ev_var rfl) W10.o1) (ep_il (ev_var rfl) W10.o2) h17 lA lB bA bB (by decide) (by decide) (by decide)))) (fit_LI (by rw [comp_len]; omega))) fun H17 _ => q H17
end
/-! ### what the top has written; the end -/
theorem all_mk {l : PySem.W.OpenLaw} {w : World} {K : PySem.W.Frag} {h : Heap} {mg : Str → Option Value} {fa : Addr} (X : K.In h) (G : h.Ns mainGlobals mg) (hfa : mg "law" = some (.ref fa))
    {odcomposed ancomposed : Option Addr} {slcomposed : Array (Option Value)} {occomposed kVcomposed dccomposed pmcomposed cdcomposed ctcomposed : Value} {fcomposed : Addr} {odapplied anapplied : Option Addr} {slapplied : Array (Option Value)} {ocapplied kVapplied dcapplied pmapplied cdapplied ctapplied : Value} {fapplied : Addr} {od_law_pool an_law_pool : Option Addr} {sl_law_pool : Array (Option Value)} {oc_law_pool kV_law_pool dc_law_pool pm_law_pool cd_law_pool ct_law_pool : Value} {f_law_pool : Addr} {od_law_draw an_law_draw : Option Addr} {sl_law_draw : Array (Option Value)} {oc_law_draw kV_law_draw dc_law_draw pm_law_draw cd_law_draw ct_law_draw : Value} {f_law_draw : Addr} {od_law_number an_law_number : Option Addr} {sl_law_number : Array (Option Value)} {oc_law_number kV_law_number dc_law_number pm_law_number cd_law_number ct_law_number : Value} {f_law_number : Addr} {od_law_same an_law_same : Option Addr} {sl_law_same : Array (Option Value)} {oc_law_same kV_law_same dc_law_same pm_law_same cd_law_same ct_law_same : Value} {f_law_same : Addr} {od_law_matrix an_law_matrix : Option Addr} {sl_law_matrix : Array (Option Value)} {oc_law_matrix kV_law_matrix dc_law_matrix pm_law_matrix cd_law_matrix ct_law_matrix : Value} {f_law_matrix : Addr} {od_law_times an_law_times : Option Addr} {sl_law_times : Array (Option Value)} {oc_law_times kV_law_times dc_law_times pm_law_times cd_law_times ct_law_times : Value} {f_law_times : Addr} {od_law_image an_law_image : Option Addr} {sl_law_image : Array (Option Value)} {oc_law_image kV_law_image dc_law_image pm_law_image cd_law_image ct_law_image : Value} {f_law_image : Addr} {odlaw anlaw : Option Addr} {sllaw : Array (Option Value)} {oclaw kVlaw dclaw pmlaw cdlaw ctlaw : Value} {flaw : Addr}
    (acomposed : PySem.W.nsIn K mainGlobals "composed" = some (some (.ref fcomposed))) (lcomposed : K.lookup fcomposed = some ⟨occomposed, odcomposed, .func (PySem.W.fnOf "composed" "composed" (defArgs scomposed) (defBody scomposed) (defScope scomposed) .none kVcomposed dccomposed pmcomposed ancomposed cdcomposed ctcomposed), slcomposed⟩) (ccomposed : PySem.W.codeIn K cdcomposed "composed" = true) (kcomposed : PySem.W.keepIn K (.ref fcomposed) = true)
    (aapplied : PySem.W.nsIn K mainGlobals "applied" = some (some (.ref fapplied))) (lapplied : K.lookup fapplied = some ⟨ocapplied, odapplied, .func (PySem.W.fnOf "applied" "applied" (defArgs sapplied) (defBody sapplied) (defScope sapplied) .none kVapplied dcapplied pmapplied anapplied cdapplied ctapplied), slapplied⟩) (capplied : PySem.W.codeIn K cdapplied "applied" = true) (kapplied : PySem.W.keepIn K (.ref fapplied) = true)
    (a_law_pool : PySem.W.nsIn K mainGlobals "_law_pool" = some (some (.ref f_law_pool))) (l_law_pool : K.lookup f_law_pool = some ⟨oc_law_pool, od_law_pool, .func (PySem.W.fnOf "_law_pool" "_law_pool" (defArgs s_law_pool) (defBody s_law_pool) (defScope s_law_pool) .none kV_law_pool dc_law_pool pm_law_pool an_law_pool cd_law_pool ct_law_pool), sl_law_pool⟩) (c_law_pool : PySem.W.codeIn K cd_law_pool "_law_pool" = true) (k_law_pool : PySem.W.keepIn K (.ref f_law_pool) = true)
    (a_law_draw : PySem.W.nsIn K mainGlobals "_law_draw" = some (some (.ref f_law_draw))) (l_law_draw : K.lookup f_law_draw = some ⟨oc_law_draw, od_law_draw, .func (PySem.W.fnOf "_law_draw" "_law_draw" (defArgs s_law_draw) (defBody s_law_draw) (defScope s_law_draw) .none kV_law_draw dc_law_draw pm_law_draw an_law_draw cd_law_draw ct_law_draw), sl_law_draw⟩) (c_law_draw : PySem.W.codeIn K cd_law_draw "_law_draw" = true) (k_law_draw : PySem.W.keepIn K (.ref f_law_draw) = true)
    (a_law_number : PySem.W.nsIn K mainGlobals "_law_number" = some (some (.ref f_law_number))) (l_law_number : K.lookup f_law_number = some ⟨oc_law_number, od_law_number, .func (PySem.W.fnOf "_law_number" "_law_number" (defArgs s_law_number) (defBody s_law_number) (defScope s_law_number) .none kV_law_number dc_law_number pm_law_number an_law_number cd_law_number ct_law_number), sl_law_number⟩) (c_law_number : PySem.W.codeIn K cd_law_number "_law_number" = true) (k_law_number : PySem.W.keepIn K (.ref f_law_number) = true)
    (a_law_same : PySem.W.nsIn K mainGlobals "_law_same" = some (some (.ref f_law_same))) (l_law_same : K.lookup f_law_same = some ⟨oc_law_same, od_law_same, .func (PySem.W.fnOf "_law_same" "_law_same" (defArgs s_law_same) (defBody s_law_same) (defScope s_law_same) .none kV_law_same dc_law_same pm_law_same an_law_same cd_law_same ct_law_same), sl_law_same⟩) (c_law_same : PySem.W.codeIn K cd_law_same "_law_same" = true) (k_law_same : PySem.W.keepIn K (.ref f_law_same) = true)
    (a_law_matrix : PySem.W.nsIn K mainGlobals "_law_matrix" = some (some (.ref f_law_matrix))) (l_law_matrix : K.lookup f_law_matrix = some ⟨oc_law_matrix, od_law_matrix, .func (PySem.W.fnOf "_law_matrix" "_law_matrix" (defArgs s_law_matrix) (defBody s_law_matrix) (defScope s_law_matrix) .none kV_law_matrix dc_law_matrix pm_law_matrix an_law_matrix cd_law_matrix ct_law_matrix), sl_law_matrix⟩) (c_law_matrix : PySem.W.codeIn K cd_law_matrix "_law_matrix" = true) (k_law_matrix : PySem.W.keepIn K (.ref f_law_matrix) = true)
    (a_law_times : PySem.W.nsIn K mainGlobals "_law_times" = some (some (.ref f_law_times))) (l_law_times : K.lookup f_law_times = some ⟨oc_law_times, od_law_times, .func (PySem.W.fnOf "_law_times" "_law_times" (defArgs s_law_times) (defBody s_law_times) (defScope s_law_times) .none kV_law_times dc_law_times pm_law_times an_law_times cd_law_times ct_law_times), sl_law_times⟩) (c_law_times : PySem.W.codeIn K cd_law_times "_law_times" = true) (k_law_times : PySem.W.keepIn K (.ref f_law_times) = true)
    (a_law_image : PySem.W.nsIn K mainGlobals "_law_image" = some (some (.ref f_law_image))) (l_law_image : K.lookup f_law_image = some ⟨oc_law_image, od_law_image, .func (PySem.W.fnOf "_law_image" "_law_image" (defArgs s_law_image) (defBody s_law_image) (defScope s_law_image) .none kV_law_image dc_law_image pm_law_image an_law_image cd_law_image ct_law_image), sl_law_image⟩) (c_law_image : PySem.W.codeIn K cd_law_image "_law_image" = true) (k_law_image : PySem.W.keepIn K (.ref f_law_image) = true)
    (alaw : PySem.W.nsIn K mainGlobals "law" = some (some (.ref flaw))) (llaw : K.lookup flaw = some ⟨oclaw, odlaw, .func (PySem.W.fnOf "law" "law" (defArgs slaw) (defBody slaw) (defScope slaw) .none kVlaw dclaw pmlaw anlaw cdlaw ctlaw), sllaw⟩) (claw : PySem.W.codeIn K cdlaw "law" = true) (klaw : PySem.W.keepIn K (.ref flaw) = true)
    (y_zip : PySem.W.nsIn K mainGlobals "zip" = some none)
    (y_int : PySem.W.nsIn K mainGlobals "int" = some none)
    (y_len : PySem.W.nsIn K mainGlobals "len" = some none)
    (y_list : PySem.W.nsIn K mainGlobals "list" = some none)
    (y_tuple : PySem.W.nsIn K mainGlobals "tuple" = some none)
    (y_range : PySem.W.nsIn K mainGlobals "range" = some none)
    (y_sum : PySem.W.nsIn K mainGlobals "sum" = some none)
    (y_isinstance : PySem.W.nsIn K mainGlobals "isinstance" = some none)
    (y_bool : PySem.W.nsIn K mainGlobals "bool" = some none)
    (y_str : PySem.W.nsIn K mainGlobals "str" = some none) :
    ∃ fd : FuncData, (∀ (s : Shared) (v : Value), BindsTo s fd ⟨[v], []⟩ [("script", v)]) ∧ ∀ base : Heap, K.In base → base.Ns mainGlobals mg → FnOk l.prog w K mg base CX0 4 fa fd ["script"] (spLaw K) := by
  have e := hfa.symm.trans (PySem.W.mg_of X G alaw)
  cases e
  have Fcomposed := fun_mk (st := scomposed) lcomposed ccomposed kcomposed
  have bcomposed := Fcomposed.binds (ps := ["width", "one", "other"]) fun _ _ _ _ _ _ us hl => match us, hl with | [_, _, _], _ => rfl
  have gcomposed := PySem.W.mg_of X G acomposed
  have Fapplied := fun_mk (st := sapplied) lapplied capplied kapplied
  have bapplied := Fapplied.binds (ps := ["width", "matrix", "vector"]) fun _ _ _ _ _ _ us hl => match us, hl with | [_, _, _], _ => rfl
  have gapplied := PySem.W.mg_of X G aapplied
  have F_law_pool := fun_mk (st := s_law_pool) l_law_pool c_law_pool k_law_pool
  have b_law_pool := F_law_pool.binds (ps := ["script"]) fun _ _ _ _ _ _ us hl => match us, hl with | [_], _ => rfl
  have g_law_pool := PySem.W.mg_of X G a_law_pool
  have F_law_draw := fun_mk (st := s_law_draw) l_law_draw c_law_draw k_law_draw
  have b_law_draw := F_law_draw.binds (ps := ["pool", "many"]) fun _ _ _ _ _ _ us hl => match us, hl with | [_, _], _ => rfl
  have g_law_draw := PySem.W.mg_of X G a_law_draw
  have F_law_number := fun_mk (st := s_law_number) l_law_number c_law_number k_law_number
  have b_law_number := F_law_number.binds (ps := ["pool"]) fun _ _ _ _ _ _ us hl => match us, hl with | [_], _ => rfl
  have g_law_number := PySem.W.mg_of X G a_law_number
  have F_law_same := fun_mk (st := s_law_same) l_law_same c_law_same k_law_same
  have b_law_same := F_law_same.binds (ps := ["actual", "due"]) fun _ _ _ _ _ _ us hl => match us, hl with | [_, _], _ => rfl
  have g_law_same := PySem.W.mg_of X G a_law_same
  have F_law_matrix := fun_mk (st := s_law_matrix) l_law_matrix c_law_matrix k_law_matrix
  have b_law_matrix := F_law_matrix.binds (ps := ["pool", "width"]) fun _ _ _ _ _ _ us hl => match us, hl with | [_, _], _ => rfl
  have g_law_matrix := PySem.W.mg_of X G a_law_matrix
  have F_law_times := fun_mk (st := s_law_times) l_law_times c_law_times k_law_times
  have b_law_times := F_law_times.binds (ps := ["width", "one", "other"]) fun _ _ _ _ _ _ us hl => match us, hl with | [_, _, _], _ => rfl
  have g_law_times := PySem.W.mg_of X G a_law_times
  have F_law_image := fun_mk (st := s_law_image) l_law_image c_law_image k_law_image
  have b_law_image := F_law_image.binds (ps := ["width", "matrix", "vector"]) fun _ _ _ _ _ _ us hl => match us, hl with | [_, _, _], _ => rfl
  have g_law_image := PySem.W.mg_of X G a_law_image
  have Flaw := fun_mk (st := slaw) llaw claw klaw
  have blaw := Flaw.binds (ps := ["script"]) fun _ _ _ _ _ _ us hl => match us, hl with | [_], _ => rfl
  have glaw := PySem.W.mg_of X G alaw
  have z_zip := PySem.W.mg_none_of X G y_zip
  have z_int := PySem.W.mg_none_of X G y_int
  have z_len := PySem.W.mg_none_of X G y_len
  have z_list := PySem.W.mg_none_of X G y_list
  have z_tuple := PySem.W.mg_none_of X G y_tuple
  have z_range := PySem.W.mg_none_of X G y_range
  have z_sum := PySem.W.mg_none_of X G y_sum
  have z_isinstance := PySem.W.mg_none_of X G y_isinstance
  have z_bool := PySem.W.mg_none_of X G y_bool
  have z_str := PySem.W.mg_none_of X G y_str
  refine ⟨PySem.W.fnOf "law" "law" (defArgs slaw) (defBody slaw) (defScope slaw) .none kVlaw dclaw pmlaw anlaw cdlaw ctlaw, fun s v => .of_eq rfl, fun base _ _ => ?_⟩
  have C_law_pool : Cal l.prog w K mg base 1 "_law_pool" (spPool K) [] := ⟨_, _, _, [], ok_pool F_law_pool z_int z_list, g_law_pool, F_law_pool.kp, b_law_pool, .nil⟩
  have C_law_draw : Cal l.prog w K mg base 1 "_law_draw" spDraw [] := ⟨_, _, _, [], ok_draw F_law_draw z_int z_len, g_law_draw, F_law_draw.kp, b_law_draw, .nil⟩
  have C_law_number : Cal l.prog w K mg base 2 "_law_number" spNumber [] := ⟨_, _, _, [], ok_number F_law_number C_law_draw (by decide), g_law_number, F_law_number.kp, b_law_number, .nil⟩
  have C_law_matrix : Cal l.prog w K mg base 3 "_law_matrix" spMatrix [] := ⟨_, _, _, [], ok_matrix F_law_matrix z_range z_int C_law_draw C_law_number (by decide), g_law_matrix, F_law_matrix.kp, b_law_matrix, .nil⟩
  have C_law_same : Cal l.prog w K mg base 3 "_law_same" (spSame K 3) [] := ⟨_, _, _, [], ok_same F_law_same g_law_same b_law_same z_len z_isinstance z_bool z_int z_str z_list z_tuple z_range 3, g_law_same, F_law_same.kp, b_law_same, .nil⟩
  have C_law_times : Cal l.prog w K mg base 1 "_law_times" (spComp K) [] := ⟨_, _, _, [], ok_times F_law_times z_range z_sum, g_law_times, F_law_times.kp, b_law_times, .nil⟩
  have C_law_image : Cal l.prog w K mg base 1 "_law_image" (spApp K) [] := ⟨_, _, _, [], ok_image F_law_image z_range, g_law_image, F_law_image.kp, b_law_image, .nil⟩
  have Ccomposed : Cal l.prog w K mg base 1 "composed" (spComp K) [] := ⟨_, _, _, [], ok_composed Fcomposed z_range z_zip, gcomposed, Fcomposed.kp, bcomposed, .nil⟩
  have Capplied : Cal l.prog w K mg base 1 "applied" (spApp K) [] := ⟨_, _, _, [], ok_applied Fapplied z_range z_sum, gapplied, Fapplied.kp, bapplied, .nil⟩
  exact ok_law Flaw z_range z_int z_list z_len C_law_pool C_law_draw C_law_number C_law_matrix C_law_same C_law_times C_law_image Ccomposed Capplied
end My
open PySem PySem.W PyProof.Rows
set_option maxHeartbeats 0 in
theorem PySem.Challenge.cw_sharedboard_k01_matrices_holds : PySem.Challenge.rw_sharedboard_k01_matrices.Holds := by
  w_on; o_law; k_head; (case hw => w_witness2)
  k_fill
  refine L2.walk_of (l := PySem.Challenge.rw_sharedboard_k01_matrices) (n := 63) (k := 4) (x := "script") (CX := fun _ => L2.CX0) (sp := fun w => My.spLaw _) rfl (by decide) rfl ⟨rfl, by decide, by decide⟩ (fun w h Y => PySem.W.kIn_of Y) ?F (fun _ _ a ns hl _ hS => ⟨a, ns, rfl, hS, fun _ => rfl⟩) (fun _ _ _ _ _ h => h)
  case F =>
    intro w mg fa h KX G hmg
    refine' My.all_mk KX G hmg ?acomposed ?lcomposed ?ccomposed ?kcomposed ?aapplied ?lapplied ?capplied ?kapplied ?a_law_pool ?l_law_pool ?c_law_pool ?k_law_pool ?a_law_draw ?l_law_draw ?c_law_draw ?k_law_draw ?a_law_number ?l_law_number ?c_law_number ?k_law_number ?a_law_same ?l_law_same ?c_law_same ?k_law_same ?a_law_matrix ?l_law_matrix ?c_law_matrix ?k_law_matrix ?a_law_times ?l_law_times ?c_law_times ?k_law_times ?a_law_image ?l_law_image ?c_law_image ?k_law_image ?alaw ?llaw ?claw ?klaw ?y_zip ?y_int ?y_len ?y_list ?y_tuple ?y_range ?y_sum ?y_isinstance ?y_bool ?y_str
    (case acomposed => k_is); (case lcomposed => k_is); (case ccomposed => k_is); (case kcomposed => k_is); (case aapplied => k_is); (case lapplied => k_is); (case capplied => k_is); (case kapplied => k_is); (case a_law_pool => k_is); (case l_law_pool => k_is); (case c_law_pool => k_is); (case k_law_pool => k_is); (case a_law_draw => k_is); (case l_law_draw => k_is); (case c_law_draw => k_is); (case k_law_draw => k_is); (case a_law_number => k_is); (case l_law_number => k_is); (case c_law_number => k_is); (case k_law_number => k_is); (case a_law_same => k_is); (case l_law_same => k_is); (case c_law_same => k_is); (case k_law_same => k_is); (case a_law_matrix => k_is); (case l_law_matrix => k_is); (case c_law_matrix => k_is); (case k_law_matrix => k_is); (case a_law_times => k_is); (case l_law_times => k_is); (case c_law_times => k_is); (case k_law_times => k_is); (case a_law_image => k_is); (case l_law_image => k_is); (case c_law_image => k_is); (case k_law_image => k_is); (case alaw => k_is); (case llaw => k_is); (case claw => k_is); (case klaw => k_is); (case y_zip => k_is); (case y_int => k_is); (case y_len => k_is); (case y_list => k_is); (case y_tuple => k_is); (case y_range => k_is); (case y_sum => k_is); (case y_isinstance => k_is); (case y_bool => k_is); (case y_str => k_is)
